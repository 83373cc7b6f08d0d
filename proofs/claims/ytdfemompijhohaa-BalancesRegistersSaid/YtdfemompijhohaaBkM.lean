/- Appends of several elements; the reference's CopyTable. -/
import Derived.Test.YtdfemompijhohaaBkL
set_option linter.unusedVariables false
set_option linter.unusedSimpArgs false
namespace Go.Proofs.Ytdfemompijhohaa
open Go.RowKit Go.Maps
set_option maxRecDepth 100000

/-- Several structs are appended. -/
theorem run_appEls {α : Type} {sz : Nat} {El : (Value → Prop) → World → Array Value → α → Prop} (E : ElOK sz El) {t e ty : TypeId} {z : Value} {bytes : Nat} (ht : Try.prog.underlying t = some (.slice e)) (hinfo : (Try.prog.info? e).map (fun i => (i.zero, i.size, i.bytes)) = some (some z, sz, bytes)) (hzs : z.cells.size = sz) (hsz : 0 < sz)
    (w : World) (B : Nat) (v : Value) (ds : List α) (hown : OwnEl El e sz w B v ds) (a : Option Addr) (c : Nat) (es : List α) (Ys : List (Array Value)) (hy : es.length = 0 ∨ ∃ b off, a = some ⟨b, off, none⟩ ∧ w.rangeAt b off (rowsL Ys)) (hA2 : AllEl El (OffB v) w Ys es)
    (h47 : (ds.length + es.length) * bytes ≤ 140737488355328) (hm : ds.length + es.length ≤ maxLen) (hB : B ≤ w.heap.size) :
    ∃ v' w', (Builtin.append_ #[t, t] ty #[v, .slice a es.length c]).run Try.prog w = .ok v' w' ∧ OwnEl El e sz w' B v' (ds ++ es) ∧ w.grownBy w' v.ownBlock ∧ (v'.ownBlock = v.ownBlock ∨ v'.ownBlock = some w.heap.size) := by
  obtain ⟨i0, hi, hz0, hz1, hz2⟩ := info_parts hinfo
  cases a with
  | none =>
    rcases hy with h0 | ⟨b, off, e, _⟩
    · obtain rfl := List.eq_nil_of_length_eq_zero h0
      obtain ⟨Xs, hr, hA⟩ := hown
      exact ⟨v, w, run_app_nil w t ty e i0 sz ht hi v _ _ hr c, ⟨Xs, by simpa using hr, by simpa using hA⟩, World.grownBy.rfl' _ _, .inl rfl⟩
    · cases e
  | some ad =>
    obtain ⟨Xs, hr, hA⟩ := hown
    have hsz2 : ∀ X ∈ Ys, X.size = sz := hA2.sizes E
    have hln : (rowsL Ys).length = es.length * sz := by rw [rowsL_len hsz2, hA2.1]
    obtain ⟨v', w', h1, h2, h3, _, h4⟩ := run_append_own_at (P := Try.prog) w B t ty e i0 z sz bytes ht hi hz0 hz1 hz2 hzs hsz v ds.length _ hr ad es.length c (rowsL Ys) hln
      (fun j u hj => by
        rcases hy with h0 | ⟨b, off, e, hrg⟩
        · have := (List.getElem?_eq_some_iff.1 hj).1
          rw [hln, h0] at this; omega
        · cases e
          rw [Go.WideShapes.add_plain]
          exact hrg j u hj)
      (fun u hu => hA2.ones E u hu) hm h47 hB
    refine ⟨v', w', h1, ⟨Xs ++ Ys, ?_, ?_⟩, h3, h4⟩
    · rw [rowsL_app, List.length_append]; exact h2
    · have hold : AllEl El (OffB v) w (Xs ++ Ys) (ds ++ es) := hA.app hA2
      rcases h4 with h4 | h4
      · refine hold.imp fun Y b hY => E.mono (E.grown hY h3 fun g' y e hy => hy g' e) fun y hy g' e => hy g' (h4 ▸ e)
      · have hnew : AllEl El (fun y => OffB v y ∧ Off w.heap.size y) w (Xs ++ Ys) (ds ++ es) := hold.imp fun Y b hY => E.off hY (Nat.le_refl _)
        refine hnew.imp fun Y b hY => E.mono (E.grown hY h3 fun g' y e hy => hy.1 g' e) fun y hy g' e => by rw [h4] at e; cases e; exact hy.2

/-- A row of numbers of the call's own. -/
def OwnN (w : World) (B : Nat) (v : Value) (l : List Int) : Prop := w.ownsRow B 22 1 v l.length (l.map (Value.int .u64))
theorem OwnN.nil (w : World) (B : Nat) : OwnN w B nilS [] := World.ownsRow_nil w B 22 1
theorem OwnN.ints {w : World} {B : Nat} {v : Value} {l : List Int} (h : OwnN w B v l) (hl : l.length ≤ maxLen) : Ints .u64 w v l := Ints.own h hl
theorem OwnN.shape {w : World} {B : Nat} {v : Value} {l : List Int} (h : OwnN w B v l) : ∃ a c, v = .slice a l.length c ∧ l.length ≤ c := by
  rcases h.2 with ⟨rfl, h0⟩ | ⟨g, cap, cur, rfl, _, _, h2, _⟩
  · exact ⟨_, _, by rw [h0], by omega⟩
  · exact ⟨_, _, rfl, h2⟩
theorem OwnN.grown {w w' : World} {B : Nat} {v : Value} {l : List Int} {row : Option Nat} (h : OwnN w B v l) (hg : w.grownBy w' row) (hne : ∀ n, v.ownBlock = some n → some n ≠ row) : OwnN w' B v l := by
  refine ⟨h.1, ?_⟩
  rcases h.2 with h' | ⟨g, cap, cur, rfl, h3, h4, h5⟩
  · exact .inl h'
  · exact .inr ⟨g, cap, cur, rfl, h3, by rw [hg.block g (World.ownsRow.lt h g rfl).2 (hne g rfl)]; exact h4, h5⟩

/-- Numbers are appended. -/
theorem run_appN (w : World) (B : Nat) (ty : TypeId) (v : Value) (l : List Int) (hown : OwnN w B v l) (y : Value) (m : List Int) (hy : Ints .u64 w y m) (h47 : (l.length + m.length) * 8 ≤ 140737488355328) (hB : B ≤ w.heap.size) :
    ∃ v' w', (Builtin.append_ #[27, 27] ty #[v, y]).run Try.prog w = .ok v' w' ∧ OwnN w' B v' (l ++ m) ∧ w.grownBy w' v.ownBlock ∧ (v'.ownBlock = v.ownBlock ∨ v'.ownBlock = some w.heap.size) := by
  obtain ⟨i0, hi, hz0, hz1, hz2⟩ := info_parts info_u64
  obtain ⟨a, len, cap, rfl, hl, hm, hr⟩ := hy
  rcases a with _ | a
  · rcases hr with rfl | ⟨b, off, e, _⟩
    · obtain rfl : m = [] := List.eq_nil_of_length_eq_zero hl
      exact ⟨v, w, run_app_nil w _ ty 22 i0 1 Try.underlying27 hi v _ _ hown cap, by simpa using hown, World.grownBy.rfl' _ _, .inl rfl⟩
    · cases e
  · have hcell : ∀ j u, (m.map (Value.int .u64))[j]? = some u → w.cell? (a.add j) = some u := by
      intro j u hj
      have hjl : j < m.length := by
        have := (List.getElem?_eq_some_iff.1 hj).1
        simpa using this
      rcases hr with h0 | ⟨b, off, e, _, hc⟩
      · omega
      · cases e
        rw [Go.WideShapes.add_plain, hc j (by omega)]
        rw [← hj]
        simp [List.getD, List.getElem?_eq_getElem hjl]
    obtain ⟨v', w', h1, h2, h3, _, h4⟩ := run_append_own_at (P := Try.prog) w B 27 ty 22 i0 (.int .u64 0) 1 8 Try.underlying27 hi hz0 hz1 hz2 rfl (by decide) v l.length _ hown a len cap (m.map (Value.int .u64)) (by simp [hl]) hcell (oneN m) (by unfold maxLen; omega) (by omega) hB
    refine ⟨v', w', h1, ?_, h3, h4⟩
    rw [← List.map_append] at h2
    show w'.ownsRow B 22 1 v' (l ++ m).length _
    rw [List.length_append, hl]; exact h2

theorem wpList_appN {ops : Array Oper} {rest : List Oper} {o : Oper} {a : Act} {w : World} {Q : Exit → Act → World → Prop} (s x : Operand)
    (ho : o.op = .call { callee := .builtin .append, args := #[s, x], argTypes := #[27, 27] }) (hw : Region.wanted o (yielded ops a.tmps) = true)
    (B : Nat) (v : Value) (l : List Int) (hs : a.eval s = v) (hown : OwnN w B v l) (y : Value) (m : List Int) (hx : a.eval x = y) (hy : Ints .u64 w y m) (h47 : (l.length + m.length) * 8 ≤ 140737488355328) (hB : B ≤ w.heap.size)
    (h : ∀ v' w', OwnN w' B v' (l ++ m) → w.grownBy w' v.ownBlock → (v'.ownBlock = v.ownBlock ∨ v'.ownBlock = some w.heap.size) → wpList Try.prog ops Q rest (a.put o.dst v') w') : wpList Try.prog ops Q (o :: rest) a w :=
  BigFrame.wpList_want hw fun _ hK => by
    obtain ⟨v', w', h1, h2, h3, h4⟩ := run_appN w B o.type v l hown y m hy h47 hB
    unfold Oper.wp execOp
    simp only [ho, resolve, invoke, builtin, Sem.run_bind, Sem.run_pure, Result.andThen_ok, List.map_toArray, List.map_cons, List.map_nil, hs, hx, h1]
    exact hK _ _ (h v' w' h2 h3 h4)

theorem info_ints1 : (Try.prog.info? 27).map (·.size) = some 1 := by kernel_rfl

set_option maxHeartbeats 4000000 in
theorem copyt_any (c : CpD) (v : Value) (l : List Int) (w : World) (hc : c.ok) (hI : NumsV w v l) (hl : l.length ≤ 1000000) :
    Calls Try.prog 41 #[.agg (flatP [c.cells, [v]])] w fun e w' => (∃ a k, e = .returned (.agg (flatP [c.cells, [.slice a l.length k]])) ∧ NumsV w' (.slice a l.length k) l ∧ New w.heap.size (.slice a l.length k)) ∧ Below w.heap.size w w' := by
  have HO := Lib.hid (tabOff hc v)
  have HC := Lib.hid hc
  obtain ⟨X, HX⟩ : ∃ X, Hid (flatP [c.cells, [v]] = X) := ⟨_, Lib.hid rfl⟩
  rw [HX.out]
  obtain ⟨Z, hZ⟩ : ∃ Z, flatP [zeC.cells, [nilS]] = Z := ⟨_, rfl⟩
  have hsz : Z.size = 34 := by rw [← hZ]; rfl
  obtain ⟨hz34, hst⟩ := zero_array (P := Try.prog) (t := 29) (n := 34) Z (by rw [← hZ]; kernel_rfl) hsz (by rw [← hZ]; kernel_rfl)
  clear hst hZ
  have HBA := Lib.hid (((Below.refl w.heap.size w).alloc (Nat.le_refl _) (.cells X 29)).alloc (by simp) (.cells Z 29))
  have HT : Hid (Blk ((w.alloc (.cells X 29)).alloc (.cells Z 29)) w.heap.size (flatP [c.cells, [v]])) := by show Blk _ _ _; rw [HX.out]; exact (Blk.new rfl).alloc _
  have HZ : Hid (Blk ((w.alloc (.cells X 29)).alloc (.cells Z 29)) (w.heap.size + 1) Z) := Blk.new (by simp)
  have HI := Lib.hid (hI.below HBA.out)
  have HR := Lib.hid hI.2
  obtain ⟨a, k, rfl, _⟩ := hI.shape
  clear hI hc
  go_enter Try.func41, Try.ntmps41
  go_wp2_with (first
    | ((with_reducible refine at_load (.tmp 3) ?_); refine wpList_load_1 27 (.tmp 3) rfl w.heap.size 33 (.slice a l.length k) (HT.out.cellAt (k := 1) rfl HO.out.2.1) rfl _ Try.underlying27 rfl rfl ?_)
    | ((with_reducible refine at_app _ _ ?_); refine wpList_appN _ _ rfl rfl (w.heap.size + 2) nilS [] rfl (OwnN.nil _ _) _ l rfl HI.out.1 (by simp; omega) (by simp) ?_; intro v2 w2 ho2 hg2 hat2; have HO2 := Lib.hid ho2; have HBG := Lib.hid (grown_below hg2); have HT2 := Lib.hid (HT.out.call HBG.out); have HZ2 := Lib.hid (HZ.out.call HBG.out); have HB2 := Lib.hid (HBA.out.trans (HBG.out.mono HBA.out.size)); rw [List.nil_append] at HO2; obtain ⟨a2, k2, e2, _⟩ := HO2.out.shape; subst e2; clear ho2 hg2 hat2)
    | ((with_reducible refine at_store (.tmp 6) ?_); refine wpList_store_part1 rfl 27 (.tmp 6) _ rfl w.heap.size [c.cells, [.slice a l.length k]] 1 (.slice a l.length k) (.slice a2 l.length k2) HT2.out rfl (by rw [HO.out.2.1]; rfl) rfl info_ints1 rfl rfl ?_; intro w3 U3 B3; have HU3 := Lib.hid U3; have HT3 := Lib.hid B3; have HZ3 := Lib.hid (U3.blk HZ2.out (by omega)); clear U3 B3)
    | ((with_reducible refine at_load (.tmp 1) ?_); have hY := (tabOff HC.out (.slice a2 l.length k2)).2.2; refine wpList_load_blk rfl 29 (.tmp 1) rfl w.heap.size rfl (flatP [c.cells, [.slice a2 l.length k2]]) _ HT3.out Try.underlying29 rfl (by rw [hY]; kernel_rfl) ?_)
    | ((with_reducible refine at_store (.tmp 2) ?_); refine wpList_store_blk rfl 29 (.tmp 2) _ rfl (w.heap.size + 1) (flatP [c.cells, [.slice a2 l.length k2]]) rfl rfl Z HZ3.out (by rw [hsz, hY]) (by rw [hY]; kernel_rfl) (fun v hv => tab_one v hv) ?_; intro w4 U4 B4; have HU4 := Lib.hid U4; have HZ4 := Lib.hid B4; clear U4 B4))
  have HN2 : Hid (NumsV w2 (.slice a2 l.length k2) l ∧ New (w.heap.size + 2) (.slice a2 l.length k2)) := ⟨⟨HO2.out.ints (by unfold maxLen; omega), HR.out⟩, own_new HO2.out⟩
  have hoff : ∀ g, g < w.heap.size + 2 → Off g (.slice a2 l.length k2) := fun g hg => HN2.out.2.off hg
  have hu : ∀ {x y : World} {g : Nat}, Upd g x y → x.grownBy y (some g) := fun {x y g} h => ⟨h.os, h.tape, h.output, by rw [h.size]; exact Nat.le_refl _, fun j _ hj => h.block j (fun e => hj (by rw [e]))⟩
  have hn4 : NumsV w4 (.slice a2 l.length k2) l := ⟨(HN2.out.1.1.grownOff (hu HU3.out) (fun g e => by cases e; exact hoff _ (by omega))).grownOff (hu HU4.out) (fun g e => by cases e; exact hoff _ (by omega)), HR.out⟩
  exact bodyPost_ret (res_cellB rfl rfl HZ4.out Try.underlying29 rfl (by rw [hY]; kernel_rfl)) rfl ⟨⟨a2, k2, rfl, hn4, fun z l' c' e h => Nat.le_trans (by omega) (HN2.out.2 z l' c' e h)⟩, HU4.out.below (HU3.out.below HB2.out (Nat.le_refl _)) (by omega)⟩

end Go.Proofs.Ytdfemompijhohaa
