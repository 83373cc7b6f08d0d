/- Tables of a book. -/
import Derived.Test.YtdfemompijhohaaBkG
import Derived.Deep.LoopGhost
set_option linter.unusedVariables false
set_option linter.unusedSimpArgs false
namespace Go.Proofs.Ytdfemompijhohaa
open Go.RowKit Go.Shelf Go.Sort Go.Maps
set_option maxRecDepth 100000

/-! ### blocks that hold no cells -/
def NoCells (w : World) (r : Nat) : Prop := ∀ z : Addr, z.block = r → w.cell? z = none
theorem RangeIs.noIter {w : World} {b r cnt : Nat} {L U : Ents} (h : RangeIs w b r L U cnt) : NoCells w r := by
  obtain ⟨n, left, ⟨es, clock, since, seen, c0, _, _, _, _, hr, _⟩, _⟩ := h
  intro z e
  simp [World.cell?, e, hr]
theorem NoCells.offI {w : World} {r : Nat} (h : NoCells w r) {k : IntKind} {v : Value} {xs : List Int} (hv : Ints k w v xs) : Off r v := fun z l c e h0 eb => by
  have := hv.at0 e h0
  rw [h z eb] at this; cases this
theorem ownsRow_off {w : World} {B : Nat} {e : TypeId} {sz : Nat} {v : Value} {n : Nat} {xs : List Value} (h : w.ownsRow B e sz v n xs) {r : Nat} (hn : ∀ cur t f, w.heap[r]? ≠ some (.cells cur t f)) : ∀ g, v.ownBlock = some g → g ≠ r := by
  rintro g hg rfl
  rcases h.2 with ⟨rfl, _⟩ | ⟨g', cap, cur, rfl, _, hb, _⟩
  · cases hg
  · cases hg; exact hn _ _ _ hb
theorem RangeIs.iterObj {w : World} {b r cnt : Nat} {L U : Ents} (h : RangeIs w b r L U cnt) : ∀ cur t f, w.heap[r]? ≠ some (.cells cur t f) := by
  obtain ⟨n, left, ⟨es, clock, since, seen, c0, _, _, _, _, hr, _⟩, _⟩ := h
  intro cur t f; rw [hr]; intro e; cases e
theorem MapIs.mapObj {w : World} {b : Nat} {L : Ents} (h : MapIs w b L) : ∀ cur t f, w.heap[b]? ≠ some (.cells cur t f) := by
  obtain ⟨es, clock, hb⟩ := h.obj
  intro cur t f; rw [hb]; intro e; cases e

/-- A row of tables while a block that holds no cells turns. -/
theorem OwnEl.keptNC {N : Nat} {fr : Prop} {w w' : World} {B : Nat} {v : Value} {ds : List (CpD × List Int)} {r : Nat} (h : OwnEl (TabEl N fr) 29 34 w B v ds) (hg : w.grownBy w' (some r)) (hn : ∀ cur t f, w.heap[r]? ≠ some (.cells cur t f)) (hc : NoCells w r) :
    OwnEl (TabEl N fr) 29 34 w' B v ds := by
  refine h.grown (tabOK N fr) hg (fun n hv e => ?_) fun X d hX => ?_
  · obtain ⟨Xs, h1, _⟩ := h
    cases e
    exact ownsRow_off h1 hn _ hv rfl
  · obtain ⟨hd, a, n, k, e, h1, h2, h3, h4⟩ := hX
    have ho := hc.offI h1.1
    exact ⟨hd, a, n, k, e, ⟨h1.1.grownOff hg fun g e => by cases e; exact ho, h1.2⟩, h2, fun hf => (h3 hf).grown hg fun g e => by cases e; exact ho, h4⟩

/-! ### the loop's step -/
theorem wpList_nextC {ops : Array Oper} {rest : List Oper} {o : Oper} {a : Act} {w : World} {Q : Exit → Act → World → Prop} (hg : o.guard = none) (it : Operand) (hop : o.op = Op.next it false) (b r cnt : Nat) (L U : Ents)
    (hit : a.eval it = .pointer (some ⟨r, 0, none⟩)) (h : RangeIs w b r L U cnt)
    (hDone : U = [] → wpList Try.prog ops Q rest (a.put o.dst (.tuple #[.bool false])) w)
    (hMore : ∀ (c : CpD) (v : Value) (U' : Ents) (w' : World) (cnt' : Nat), U.Perm ((c, v) :: U') → RangeIs w' b r L U' cnt' → cnt' < cnt → w.grownBy w' (some r) → w'.heap.size = w.heap.size →
      (Instr.entry (.pointer (some ⟨r, 0, none⟩))).run Try.prog w' = .ok (.tuple #[.agg c.cells.toArray, v]) w' → wpList Try.prog ops Q rest (a.put o.dst (.tuple #[.bool true, .agg c.cells.toArray, v])) w') :
    wpList Try.prog ops Q (o :: rest) a w := by
  refine wpList_plain hg fun K' hK' => ?_
  unfold Oper.wp
  rcases h.next o.type with ⟨h0, hrun⟩ | ⟨⟨c, v⟩, U', w', cnt', hp, hrun, hrg, hlt, hgr, hsz, hen⟩
  · simp [execOp, hop, hit, hrun, Result.andThen]
    exact hK' _ _ (hDone h0)
  · simp only [cpX] at hrun hen
    simp [execOp, hop, hit, hrun, Result.andThen]
    exact hK' _ _ (hMore c v U' w' cnt' hp hrg hlt hgr hsz hen)
theorem wpList_rangeC {ops : Array Oper} {rest : List Oper} {o : Oper} {a : Act} {w : World} {Q : Exit → Act → World → Prop} (hg : o.guard = none) (m : Operand) (t e : TypeId) (hop : o.op = Op.range t m) (ht : Try.prog.underlying t = some (.map 26 e)) (b : Nat) (L : Ents)
    (hm : a.eval m = .map (some b)) (h : MapIs w b L)
    (hK : ∀ w', RangeIs w' b w.heap.size L L L.length → w.grownBy w' none → w'.heap.size = w.heap.size + 1 → wpList Try.prog ops Q rest (a.put o.dst (.pointer (some ⟨w.heap.size, 0, none⟩))) w') :
    wpList Try.prog ops Q (o :: rest) a w := by
  refine wpList_plain hg fun K' hK' => ?_
  obtain ⟨w', hrun, r1, r2, r3⟩ := h.range ht
  unfold Oper.wp
  simp [execOp, hop, hm, hrun, Result.andThen]
  exact hK' _ _ (hK w' r1 r2 r3)
theorem wpList_lenC {ops : Array Oper} {rest : List Oper} {o : Oper} {a : Act} {w : World} {Q : Exit → Act → World → Prop} (hg : o.guard = none) (m : Operand) (t e : TypeId) (hop : o.op = Op.call { callee := Callee.builtin Builtin.len, args := #[m], argTypes := #[t] }) (ht : Try.prog.underlying t = some (.map 26 e)) (b : Nat) (L : Ents)
    (hm : a.eval m = .map (some b)) (h : MapIs w b L) (hK : wpList Try.prog ops Q rest (a.put o.dst (.int .i64 L.length)) w) : wpList Try.prog ops Q (o :: rest) a w := by
  refine wpList_plain hg fun K' hK' => ?_
  have hrun := h.len ht o.type
  unfold Oper.wp
  simp [execOp, hop, resolve, invoke, builtin, hm, hrun, Result.andThen]
  exact hK' _ _ hK

theorem at_lenC {P : Program} {ops : Array Oper} {Q : Exit → Act → World → Prop} {dst : Option Tmp} (t : TypeId) (x : Operand) {ty' : TypeId} {pos : String} {aft : Array Edge} {g : Option (Nat × Bool)} {rest : List Oper} {a : Act} {w : World}
    (h : wpList P ops Q (⟨dst, .call { callee := .builtin .len, args := #[x], argTypes := #[t] }, ty', pos, aft, g⟩ :: rest) a w) : wpList P ops Q (⟨dst, .call { callee := .builtin .len, args := #[x], argTypes := #[t] }, ty', pos, aft, g⟩ :: rest) a w := h

/-- A slice of one struct, carried out in a region that draws its order. -/
theorem wp_buildSlice {P : Program} {o : Oper} {a : Act} {w w' : World} {K : Act → World → Prop} {Q : Exit → Act → World → Prop} (t : TypeId) (n : Nat) (ps : Array (Nat × Operand)) (ho : o.op = .buildSlice t n ps)
    (ps' : Array (Nat × Value)) (hps : ps.map (fun (i, x) => (i, a.eval x)) = ps') (v : Value) (hr : (Instr.buildSlice t n ps').run P w = .ok v w') (h : K (a.put o.dst v) w') : o.wp P a w K Q := by
  unfold Oper.wp execOp
  simp only [ho, hps, Sem.run_bind, hr, Result.andThen_ok, Sem.run_pure]
  exact h
/-- The append of one struct, carried out so. -/
theorem wp_appEl {α : Type} {sz : Nat} {El : (Value → Prop) → World → Array Value → α → Prop} (E : ElOK sz El) {t e : TypeId} {z : Value} {bytes : Nat} (ht : Try.prog.underlying t = some (.slice e)) (hinfo : (Try.prog.info? e).map (fun i => (i.zero, i.size, i.bytes)) = some (some z, sz, bytes)) (hzs : z.cells.size = sz) (hsz : 0 < sz)
    {o : Oper} {a : Act} {w : World} {K : Act → World → Prop} {Q : Exit → Act → World → Prop} (s x : Operand)
    (ho : o.op = .call { callee := .builtin .append, args := #[s, x], argTypes := #[t, t] })
    (B : Nat) (v : Value) (ds : List α) (hs : a.eval s = v) (hown : OwnEl El e sz w B v ds) (g c : Nat) (X : Array Value) (d : α) (hx : a.eval x = .slice (some ⟨g, 0, none⟩) 1 c) (hX : El (OffB v) w X d) (hg : w.rangeAt g 0 X.toList)
    (h47 : (ds.length + 1) * bytes ≤ 140737488355328) (hm : ds.length + 1 ≤ maxLen) (hB : B ≤ w.heap.size)
    (h : ∀ v' w', OwnEl El e sz w' B v' (ds ++ [d]) → w.grownBy w' v.ownBlock → (v'.ownBlock = v.ownBlock ∨ v'.ownBlock = some w.heap.size) → K (a.put o.dst v') w') : o.wp Try.prog a w K Q := by
  obtain ⟨v', w', h1, h2, h3, h4⟩ := run_appEl E (ty := o.type) ht hinfo hzs hsz w B v ds hown g c X d hX hg h47 hm hB
  unfold Oper.wp execOp
  simp only [ho, resolve, invoke, builtin, Sem.run_bind, Sem.run_pure, Result.andThen_ok, List.map_toArray, List.map_cons, List.map_nil, hs, hx, h1]
  exact h v' w' h2 h3 h4

theorem info_tab : (Try.prog.info? 29).map (fun i => (i.zero, i.size, i.bytes)) = some (some (.agg (flatP [zeC.cells, [nilS]])), 34, 64) := by kernel_rfl

def TabsRel (w : World) (mb r : Nat) (E : List TeD) (v : Value) (wr : World) : Prop :=
  ∃ (ds : List (CpD × List Int)) (U : Ents) (cnt : Nat), RangeIs wr mb r (E.map TeD.ent) U cnt ∧ OwnEl (TabEl w.heap.size True) 29 34 wr w.heap.size v ds ∧ (ds.map Prod.fst ++ U.map Prod.fst).Perm (E.map TeD.c) ∧ (∀ d ∈ ds, d.2 = tlst E d.1) ∧ Below w.heap.size w wr

/-- What Tables hands back. -/
def TabsR (w : World) (E : List TeD) (e : Ending) (w' : World) : Prop :=
  ∃ (v : Value) (T : List TbS), e = .returned v ∧ Below w.heap.size w w' ∧ ((T = [] ∧ ∃ a k, v = .slice a 0 k) ∨ ∃ g cap, v = .slice (some ⟨g, 0, none⟩) T.length cap ∧ w.heap.size ≤ g ∧ g < w'.heap.size ∧ 0 < T.length ∧ HoldsK encT 34 w' g 0 T.toArray ∧ ∀ x ∈ T, Off g x.v) ∧
    (∀ x ∈ T, NumsV w' x.v (tlst E x.c) ∧ New w.heap.size x.v ∧ Free w' x.v) ∧ (T.map TbS.c).Perm (E.map TeD.c) ∧ T.Pairwise (fun x y => ltC x.c y.c)

theorem ents_nodup {w : World} {b mb : Nat} {n lim : Int} {E : List TeD} (h : BookIs w b mb n lim E) : (E.map TeD.c).Nodup := by
  have := h.map.2.nodup
  rwa [List.map_map] at this
theorem tlst_mem {E : List TeD} (h : (E.map TeD.c).Nodup) {e : TeD} (he : e ∈ E) : tlst E e.c = e.l := by
  unfold tlst
  induction E with
  | nil => cases he
  | cons x r ih =>
    rw [List.map_cons, List.nodup_cons] at h
    rcases List.mem_cons.1 he with rfl | he
    · simp [tget]
    · have hne : x.c ≠ e.c := fun e' => h.1 (List.mem_map.2 ⟨e, he, e'.symm⟩)
      simp only [tget, if_neg hne]
      exact ih h.2 he

theorem sorted_strict {M : List TbS} (h : M.Pairwise (fun x y => ¬ ltC y.c x.c)) (hn : (M.map TbS.c).Nodup) : M.Pairwise (fun x y => ltC x.c y.c) := by
  have h2 : M.Pairwise (fun x y => x.c ≠ y.c) := by rwa [List.Nodup, List.pairwise_map] at hn
  refine (h.and h2).imp fun {x y} hxy => ?_
  rcases ltC_total x.ok y.ok hxy.2 with h3 | h3
  · exact h3
  · exact absurd h3 hxy.1

theorem zip_pick {T : List TbS} {ds : List (CpD × List Int)} (e : T.map TbS.c = ds.map Prod.fst) {x : TbS} (hx : x ∈ T) : ∃ d, (x, d) ∈ T.zip ds ∧ x.c = d.1 ∧ d ∈ ds := by
  induction T generalizing ds with
  | nil => cases hx
  | cons y r ih =>
    cases ds with
    | nil => simp at e
    | cons d s =>
      simp only [List.map_cons, List.cons.injEq] at e
      rcases List.mem_cons.1 hx with rfl | hx
      · exact ⟨d, by simp, e.1, by simp⟩
      · obtain ⟨d', h1, h2, h3⟩ := ih e.2 hx
        exact ⟨d', by simp [h1], h2, List.mem_cons_of_mem _ h3⟩

/-- From the row that was filled to what is handed back. -/
theorem tabs_fin {w w1 w2 : World} {b mb : Nat} {n lim : Int} {E : List TeD} (hB : BookIs w b mb n lim E) {g cap : Nat} {T M : List TbS} (hp : M.Perm T) (hs : M.Pairwise (fun x y => ¬ ltC y.c x.c)) (hT : (T.map TbS.c).Perm (E.map TeD.c))
    (hel : ∀ x ∈ T, NumsV w1 x.v (tlst E x.c) ∧ New w.heap.size x.v ∧ Free w1 x.v ∧ Off g x.v) (hg : w.heap.size ≤ g) (hlt : g < w2.heap.size) (h0 : 0 < T.length) (hH : HoldsK encT 34 w2 g 0 M.toArray) (hgr : w1.grownBy w2 (some g)) (hb : Below w.heap.size w w2) :
    TabsR w E (.returned (.slice (some ⟨g, 0, none⟩) T.length cap)) w2 := by
  have hc : (M.map TbS.c).Perm (E.map TeD.c) := (hp.map _).trans hT
  have hel2 : ∀ x ∈ M, NumsV w2 x.v (tlst E x.c) ∧ New w.heap.size x.v ∧ Free w2 x.v ∧ Off g x.v := fun x hx => by
    obtain ⟨h1, h2, h3, h4⟩ := hel x (hp.mem_iff.1 hx)
    exact ⟨⟨h1.1.grownOff hgr fun k e => by cases e; exact h4, h1.2⟩, h2, h3.grown hgr fun k e => by cases e; exact h4, h4⟩
  refine ⟨_, M, by rw [hp.length_eq], hb, .inr ⟨g, cap, rfl, hg, hlt, by rw [hp.length_eq]; exact h0, hH, fun x hx => (hel2 x hx).2.2.2⟩, fun x hx => ⟨(hel2 x hx).1, (hel2 x hx).2.1, (hel2 x hx).2.2.1⟩, hc, sorted_strict hs (hc.nodup_iff.2 (ents_nodup hB))⟩

set_option maxHeartbeats 8000000 in
theorem tabs_any (b mb : Nat) (n lim : Int) (E : List TeD) (w : World) (hB : BookIs w b mb n lim E) (hn : n ≤ 1024) (hE : E.length ≤ 1000) :
    Calls Try.prog 11 #[.pointer (some ⟨b, 0, none⟩)] w (TabsR w E) := by
  have HB := Lib.hid hB
  have c2 : w.cell? ⟨b, 2, none⟩ = some (.map (some mb)) := hB.blk.cell 2
  have HM := Lib.hid hB.map
  have HEn := Lib.hid hE
  obtain ⟨i0, hi, hz0, hz1, hz2⟩ := info_parts info_tab
  obtain ⟨ZT, hZT⟩ : ∃ Z, Hid (flatP [zeC.cells, [nilS]] = Z) := ⟨_, rfl⟩
  rw [hZT.out] at hz0
  obtain ⟨ZC, hZC⟩ : ∃ Z, zeC.cells.toArray = Z := ⟨_, rfl⟩
  have hszC : ZC.size = 33 := by rw [← hZC]; rfl
  obtain ⟨hz33, hst⟩ := zero_array (P := Try.prog) (t := 26) (n := 33) ZC (by rw [← hZC]; kernel_rfl) hszC (by rw [← hZC]; kernel_rfl)
  clear hB hst hZC hE
  have HLE : Hid ((E.map TeD.ent).length = E.length) := List.length_map _
  go_enter Try.func11, Try.ntmps11
  go_wp2_with (first
    | ((with_reducible refine at_lenC 58 _ ?_); refine wpList_lenC rfl _ 58 27 rfl Try.underlying58 mb _ rfl HM.out ?_; rw [HLE.out])
    | (at_make; refine wpList_make_own _ rfl _ _ 37 rfl w.heap.size 29 i0 (.agg ZT) 34 Try.underlying37 hi hz0 hz1 .i64 .i64 E.length E.length rfl rfl rfl (by have := HEn.out; rw [hz2]; omega) (by have := HEn.out; unfold maxLen; omega) (Nat.le_refl _) ?_; intro w1 hown1 hg1; have HO1 := Lib.hid hown1; have HB1 := Lib.hid (grown_below hg1); have c21 : w1.cell? ⟨b, 2, none⟩ = some (.map (some mb)) := (HB.out.call HB1.out).blk.cell 2; have HM1 := Lib.hid (HM.out.call HB1.out); clear hown1 hg1 c2)
    | (at_range; refine wpList_rangeC rfl _ 58 27 rfl Try.underlying58 mb _ rfl HM1.out ?_; intro w2 hrg2 hg2 hs2; have HR2 := Lib.hid hrg2; have HB2 := Lib.hid (grown_below hg2); clear hrg2 hg2 hs2))
  go_frame
  have HREL : Hid (TabsRel w mb w1.heap.size E (.slice (some ⟨w.heap.size, 0, none⟩) 0 E.length) w2) := by
    refine ⟨[], _, _, HR2.out, ?_, ?_, by simp, HB1.out.trans (HB2.out.mono HB1.out.size)⟩
    · exact OwnEl.call (tabOK _ _) ⟨[], HO1.out, AllEl.nil _ _⟩ HB2.out
    · simp [List.map_map, Function.comp_def, TeD.ent]
  go_loopw [3] (fun v wr => TabsRel w mb w1.heap.size E v wr) (fun _ wr => wr.rangeLeft mb w1.heap.size)
  case atStart => exact HREL.out
  case round =>
    obtain ⟨ds, U, cnt, hrg, hown, hperm, hlst, hbel⟩ := hrel
    have HRG := Lib.hid hrg
    have HOW := Lib.hid hown
    have HP := Lib.hid hperm
    have HL := Lib.hid hlst
    have HBL := Lib.hid hbel
    have HW1 : Hid (w.heap.size ≤ w1.heap.size) := HB1.out.size
    have HLEN : Hid (ds.length ≤ 1000) := by
      show _ ≤ _
      have h1 := hperm.length_eq
      have h2 := HEn.out
      simp at h1
      omega
    clear hrg hown hperm hlst hbel HREL HR2 HB2 HO1 c21 HM1
    go_wp2_with (first
      | (at_next; refine wpList_nextC rfl _ rfl mb w1.heap.size cnt _ U rfl HRG.out ?_ ?_)
      | go_in)
    · rintro rfl
      have HP2 : Hid ((ds.map Prod.fst).Perm (E.map TeD.c)) := by have := HP.out; rwa [List.map_nil, List.append_nil] at this
      obtain ⟨a, k, hv, _, _, _⟩ := HOW.out.shape
      subst hv
      by_cases h0 : ds = []
      · subst h0
        have HSN := Lib.hid (AnyF.slices_SortFunc_none Try.sortT a k (.func (.func 26) #[] #[]) wr)
        go_wp2_with (go_at_call 25; refine HSN.out.mono ?_; rintro e w3 ⟨rfl, rfl⟩)
        go_ret
        exact ⟨_, [], rfl, HBL.out, .inl ⟨rfl, a, k, rfl⟩, by simp, HP2.out, List.Pairwise.nil⟩
      · obtain ⟨Xs, hr, hA⟩ := HOW.out
        obtain ⟨T, hXs, eT, hT⟩ := tab_elems hA
        subst hXs
        have hlen : T.length = ds.length := by have := congrArg List.length eT; simpa using this
        obtain ⟨g, cap, e, hg, hlt, _, _, _, hH⟩ := own_holdsT hr (fun e => h0 (List.eq_nil_of_length_eq_zero (Value.slice.inj e).2.1))
        cases e
        have HTE : Hid (∀ x ∈ T, NumsV wr x.v (tlst E x.c) ∧ New w.heap.size x.v ∧ Free wr x.v ∧ Off g x.v) := fun x hx => by
          obtain ⟨d, hd, hxd, hdm⟩ := zip_pick eT hx
          obtain ⟨h1, h2, h3, h4⟩ := hT (x, d) hd
          rw [HL.out d hdm, ← hxd] at h1
          exact ⟨h1, h2, h3 trivial, h4 g rfl⟩
        have HSR := Lib.hid (sortT_row g k w.heap.size T wr w HBL.out hg hlt (by have := HLEN.out; omega) hH)
        rw [hlen] at HSR
        have HG := Lib.hid hg
        have HTL := Lib.hid hlen
        have HT0 : Hid (0 < T.length) := by show _ < _; rw [hlen]; exact List.length_pos_iff.2 h0
        have HTP : Hid ((T.map TbS.c).Perm (E.map TeD.c)) := by show List.Perm _ _; rw [eT]; exact HP2.out
        clear hr hA hT hH hg hlt hlen eT h0
        go_wp2_with (go_at_call 25; refine HSR.out.mono ?_; rintro e w3 ⟨rfl, M, hp, hs, hb3, hlt3, hH3, hg3⟩)
        go_ret
        rw [← HTL.out]
        exact tabs_fin HB.out hp hs HTP.out HTE.out HG.out hlt3 HT0.out hH3 hg3 hb3
    · intro c v0 U' w3 cnt' hp hrg3 hlt3 hgr3 hsz3 hen3
      have HPU := Lib.hid hp
      have HR3 := Lib.hid hrg3
      have HLT := Lib.hid hlt3
      have HO3 := Lib.hid (HOW.out.keptNC hgr3 HRG.out.iterObj HRG.out.noIter)
      have HB3 := Lib.hid (below_mapped HBL.out hgr3 HW1.out HBL.out.size)
      have hmem : (c, v0) ∈ E.map TeD.ent := by
        obtain ⟨_, _, _, _, hsub, _⟩ := HRG.out
        exact hsub _ (hp.mem_iff.2 (by simp))
      obtain ⟨e0, he0, hee⟩ := List.mem_map.1 hmem
      simp only [TeD.ent, Prod.mk.injEq] at hee
      obtain ⟨rfl, rfl⟩ := hee
      have hcok : e0.c.ok := HM.out.2.ok _ hmem
      have HC := Lib.hid hcok
      have HV3 : Hid (NumsV w3 e0.v (tlst E e0.c)) := by
        have := (HB.out.rows e0 he0).1.below HB3.out
        rwa [← tlst_mem (ents_nodup HB.out) he0] at this
      have HLL : Hid ((tlst E e0.c).length ≤ 1000000) := by
        show _ ≤ _
        have := (HB.out.rows e0 he0).2.1
        rw [tlst_mem (ents_nodup HB.out) he0]
        omega
      obtain ⟨c, hc⟩ : ∃ c, e0.c = c := ⟨_, rfl⟩
      obtain ⟨v0, hv0⟩ : ∃ v, e0.v = v := ⟨_, rfl⟩
      rw [hc] at HC HV3 HLL hen3 HPU ⊢
      rw [hv0] at HV3 hen3 HPU ⊢
      obtain ⟨l, hl⟩ : ∃ l, Hid (tlst E c = l) := ⟨_, rfl⟩
      rw [hl.out] at HV3 HLL
      obtain ⟨C, hC⟩ : ∃ C, Hid (c.cells.toArray = C) := ⟨_, rfl⟩
      rw [hC.out] at hen3 ⊢
      have hsC : C.size = 33 := by rw [← hC.out, List.size_toArray, CpD.len HC.out]
      have hiC : (Try.prog.info? 26).map (·.size) = some C.size := by rw [hsC]; kernel_rfl
      have HOC : Hid (∀ v ∈ C, v.oneCell' = true) := by show ∀ v ∈ C, _; rw [← hC.out]; exact fun v hv => CpD.one _ v (by simpa using hv)
      have hZC : ZC.size = C.size := by rw [hszC, hsC]
      clear hp hrg3 hlt3 hgr3 hsz3 hmem he0 hcok hc hv0 e0
      go_wp2_with (first
        | ((with_reducible refine at_store (.tmp 4) ?_); refine wpList_store_blk rfl 26 (.tmp 4) _ rfl w3.heap.size C rfl rfl ZC (Blk.new rfl) hZC hiC HOC.out ?_; intro w4 U4 B4; have HB34 := Lib.hid (U4.below ((Below.refl w3.heap.size w3).alloc (Nat.le_refl _) (.cells ZC 26)) (Nat.le_refl _)); have HBC := Lib.hid B4; have HSZ : Hid (w3.heap.size < w4.heap.size) := B4.lt; clear U4 B4)
        | go_in)
      have HB4 := Lib.hid (HB3.out.trans (HB34.out.mono HB3.out.size))
      have HO4 := Lib.hid (HO3.out.call (tabOK _ _) HB34.out)
      have HR4 := Lib.hid (HR3.out.grown (below_grown HB34.out) (by simp) (by simp))
      have HV4 := Lib.hid (HV3.out.below HB34.out)
      obtain ⟨ba, bk, hbv, _, _, _⟩ := HO4.out.shape
      subst hbv
      have HD4 : Hid (Below w4.heap.size w4 w4.drew) := ⟨rfl, rfl, rfl, Nat.le_refl _, fun _ _ => rfl⟩
      have HOW3 := Lib.hid (HO3.out.lt)
      refine wp_region_held_drew (S := fun u => Blk u w3.heap.size C) (by kernel_rfl) (HBC.out.call HD4.out) (fun _ => ?_)
      (try simp only [Act.put, List.setIfInBounds_toArray, List.set_cons_zero, List.set_cons_succ])
      have HBCd := Lib.hid (HBC.out.call HD4.out)
      refine wpAnyH_take (i := 0) (oi := ⟨some 22, _, _, _, _, _⟩) (v := .slice ba ds.length bk) rfl (by kernel_rfl) (by kernel_rfl) (by kernel_rfl) (fun _ _ _ h => h) (Or.inl ⟨by rfl, fun wz hz => ?_⟩) HBCd.out ?_
      · clear hz; go_simp; first | done | with_reducible rfl | rfl
      (try simp only [Act.put, List.setIfInBounds_toArray, List.set_cons_zero, List.set_cons_succ])
      refine held_load (oi := ⟨some 23, _, _, _, _, _⟩) 1 rfl (by kernel_rfl) (by kernel_rfl) (by kernel_rfl) (fun _ _ _ _ h => h) rfl 26 (.tmp 4) rfl w3.heap.size 0 rfl C.toList _ (fun u' hu => hu.range) Try.underlying26 rfl (by simpa using hiC) HBCd.out ?_
      simp only [Array.toArray_toList]
      (try simp only [Act.put, List.setIfInBounds_toArray, List.set_cons_zero, List.set_cons_succ])
      refine wpAnyH_take (i := 2) (oi := ⟨some 24, _, _, _, _, _⟩) (v := v0) rfl (by kernel_rfl) (by kernel_rfl) (by kernel_rfl) (fun _ _ _ h => h) (Or.inl ⟨by rfl, fun wz hz => ?_⟩) HBCd.out ?_
      · clear hz; go_simp; first | done | with_reducible rfl | rfl
      (try simp only [Act.put, List.setIfInBounds_toArray, List.set_cons_zero, List.set_cons_succ])
      refine wpAnyH_ready (rs := [3]) (by kernel_rfl) (by simp) ?_
      refine AllReadyH.cons rfl (fun K hK => ?_) AllReadyH.nil
      go_simp
      refine (cloneN v0 l _ (HV4.out.below HD4.out) (by have := HLL.out; omega)).mono ?_
      rintro e w5 ⟨v5, rfl, hv5, hn5, hf5, hb5⟩
      have HB45 := Lib.hid (HD4.out.trans (hb5.mono (show w4.heap.size ≤ w4.drew.heap.size from Nat.le_refl _)))
      have HBC5 := Lib.hid (HBC.out.call HB45.out)
      have HV5 := Lib.hid hv5
      have HN5 : Hid (New w4.heap.size v5) := hn5
      have HF5 := Lib.hid hf5
      obtain ⟨ca, ck, hcv, _⟩ := hv5.shape
      subst hcv
      clear hv5 hn5 hf5 hb5
      refine hK.out _ _ HBC5.out (fun _ => ?_)
      clear hK K
      (try simp only [Act.put, List.setIfInBounds_toArray, List.set_cons_zero, List.set_cons_succ])
      have HBT := Lib.hid (fun u => build_tbv HC.out ca l.length ck u)
      rw [hC.out] at HBT
      obtain ⟨Y, hY⟩ : ∃ Y, Hid (flatP [c.cells, [.slice ca l.length ck]] = Y) := ⟨_, rfl⟩
      rw [hY.out] at HBT
      have HYS : Hid (Y.size = 34) := by show _ = _; rw [← hY.out]; exact (tabOff HC.out _).2.2
      refine held_build 4 (oi := ⟨some 26, _, _, _, _, _⟩) rfl (by kernel_rfl) (by kernel_rfl) (by kernel_rfl) (fun _ _ _ _ h => h) rfl 29 _ rfl #[(0, .agg C), (1, .slice ca l.length ck)] (by simp [Act.eval, Act.put]) (.agg Y) HBT.out HBC5.out ?_
      (try simp only [Act.put, List.setIfInBounds_toArray, List.set_cons_zero, List.set_cons_succ])
      have HBE := Lib.hid (buildEl (P := Try.prog) (t := 37) (e := 29) (Z := flatP [zeC.cells, [nilS]]) (X := Y) (sz := 34) Try.underlying37 (fun w => by kernel_rfl) (by kernel_rfl) (by rfl) HYS.out (by omega) (by omega) w5)
      have HBC6 := Lib.hid (HBC5.out.alloc (.cells Y 29))
      refine wpAnyH_ready (rs := [5]) (by kernel_rfl) (by simp) ?_
      refine AllReadyH.cons rfl (fun K hK => ?_) AllReadyH.nil
      refine wp_buildSlice 37 1 _ rfl #[(0, .agg Y)] (by simp [Act.eval, Act.put]) _ HBE.out ?_
      refine hK.out _ _ HBC6.out (fun _ => ?_)
      clear hK K
      (try simp only [Act.put, List.setIfInBounds_toArray, List.set_cons_zero, List.set_cons_succ])
      have HB46 := Lib.hid (HB45.out.alloc HB45.out.size (.cells Y 29))
      have HO6 := Lib.hid (HO4.out.call (tabOK _ _) HB46.out)
      have HR6 := Lib.hid (HR4.out.grown (below_grown HB46.out) (by simp) (by simp))
      have HA56 : Hid (Below w5.heap.size w5 (w5.alloc (.cells Y 29))) := (Below.refl _ _).alloc (Nat.le_refl _) _
      have HEL : Hid (TabEl w.heap.size True (OffB (.slice ba ds.length bk)) (w5.alloc (.cells Y 29)) Y (c, l)) := ⟨HC.out, ca, l.length, ck, hY.out.symm, HV5.out.below HA56.out, HN5.out.mono HB4.out.size, fun _ => HF5.out.grown (below_grown HA56.out) (fun g e => by cases e), fun g hg => HN5.out.off ((HO4.out.lt g hg).2)⟩
      refine wpAnyH_ready (rs := [6]) (by kernel_rfl) (by simp) ?_
      refine AllReadyH.cons rfl (fun K hK => ?_) AllReadyH.nil
      refine wp_appEl (tabOK _ _) Try.underlying37 info_tab (by rfl) (by omega) (.tmp 22) (.tmp 27) rfl w.heap.size (.slice ba ds.length bk) ds rfl HO6.out w5.heap.size 1 Y (c, l) rfl HEL.out (Blk.new rfl).range (by have := HLEN.out; omega) (by have := HLEN.out; unfold maxLen; omega) (by have := HB4.out.size; have := HB46.out.size; omega) ?_
      intro v7 w7 ho7 hg7 _
      have HO7 := Lib.hid ho7
      have HR7 := Lib.hid (HR6.out.grown hg7 (fun e => ownsRow_off HO6.out.choose_spec.1 HR6.out.map.mapObj mb e.symm rfl) (fun e => ownsRow_off HO6.out.choose_spec.1 HR6.out.iterObj w1.heap.size e.symm rfl))
      have HBC7 := Lib.hid (HBC6.out.grown hg7 (fun e => by have := (HOW3.out _ e.symm).2; omega))
      have HB7 := Lib.hid ((HB4.out.trans (HB46.out.mono HB4.out.size)).grown hg7 (Nat.le_trans HB4.out.size HB46.out.size) (fun j hj => (HO6.out.lt j hj).1))
      clear ho7 hg7
      refine hK.out _ _ HBC7.out (fun _ => ?_)
      clear hK K
      (try simp only [Act.put, List.setIfInBounds_toArray, List.set_cons_zero, List.set_cons_succ])
      refine wpAnyH_ready (rs := [7]) (by kernel_rfl) (by simp) ?_
      refine AllReadyH.cons rfl (fun K hK => ?_) AllReadyH.nil
      go_simp
      refine hK.out _ _ (HBC7.out) (fun _ => ?_)
      clear hK K
      (try simp only [Act.put, List.setIfInBounds_toArray, List.set_cons_zero, List.set_cons_succ])
      refine wpAnyH_done (by kernel_rfl) ?_ _
      go_wp2_with fail
      go_roundw
      case rel =>
        refine ⟨ds ++ [(c, l)], U', cnt', HR7.out, HO7.out, ?_, ?_, HB7.out⟩
        · refine List.Perm.trans ?_ HP.out
          rw [List.map_append, List.append_assoc]
          exact List.Perm.append_left _ ((HPU.out.map Prod.fst).symm)
        · intro d hd
          rcases List.mem_append.1 hd with hd | hd
          · exact HL.out d hd
          · rw [List.mem_singleton.1 hd]; exact hl.out.symm
      case measure => rw [HR7.out.left_eq, HRG.out.left_eq]; exact HLT.out

end Go.Proofs.Ytdfemompijhohaa
