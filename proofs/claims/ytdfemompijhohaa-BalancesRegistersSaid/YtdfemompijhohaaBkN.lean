/- The reference's AddTable. -/
import Derived.Test.YtdfemompijhohaaBkM
set_option linter.unusedVariables false
set_option linter.unusedSimpArgs false
namespace Go.Proofs.Ytdfemompijhohaa
open Go.RowKit Go.Maps
set_option maxRecDepth 100000

theorem AllEl.split {α : Type} {El : (Value → Prop) → World → Array Value → α → Prop} {P : Value → Prop} {w : World} {Xs : List (Array Value)} {ds : List α} (h : AllEl El P w Xs ds) (k : Nat) : AllEl El P w (Xs.take k) (ds.take k) ∧ AllEl El P w (Xs.drop k) (ds.drop k) := by
  have hl := h.1
  have e : Xs.zip ds = (Xs.take k).zip (ds.take k) ++ (Xs.drop k).zip (ds.drop k) := by
    rw [← List.zip_append (by simp [hl]), List.take_append_drop, List.take_append_drop]
  exact ⟨⟨by simp [hl], fun p hp => h.2 p (by rw [e]; exact List.mem_append_left _ hp)⟩, ⟨by simp [hl], fun p hp => h.2 p (by rw [e]; exact List.mem_append_right _ hp)⟩⟩

/-- The row behind a slice of tables. -/
theorem TabsV.row {w : World} {a : Option Addr} {m cap : Nat} {ds : List (CpD × List Int)} (h : TabsV w (.slice a m cap) ds) :
    ∃ Xs, AllEl (TabEl 0 False) (fun _ => True) w Xs ds ∧ (ds.length = 0 ∨ ∃ b off, a = some ⟨b, off, none⟩ ∧ b < w.heap.size ∧ w.rangeAt b off (rowsL Xs)) := by
  obtain ⟨a', cap', e, hl, hr⟩ := h
  cases e
  rcases hr with h0 | ⟨b, off, rfl, hlt, Xs, h1, h2⟩
  · obtain rfl := List.eq_nil_of_length_eq_zero h0
    exact ⟨[], AllEl.nil _ _, .inl rfl⟩
  · exact ⟨Xs, h2, .inr ⟨b, off, rfl, hlt, h1⟩⟩

theorem run_slHi (a : Option Addr) (n cap k : Nat) (hk : k ≤ cap) (w : World) : (Instr.sliceAt 37 (.slice a n cap) none (some (.int .i64 k)) none).run Try.prog w = .ok (.slice a k cap) w := by
  have hs : (sizeOf 29).run Try.prog w = .ok 34 w := Try.sizeOf29 w
  have ht := Try.underlying37
  have h37 : Try.prog.underlying 37 = some (.slice (Try.prog.elem 37)) := by kernel_rfl
  refine (run_sliceAt_slice _ _ _ _ _ _ h37).trans ?_
  have h1 : (0 : Int) ≤ k ∧ (k : Int) ≤ cap := by omega
  simp [Instr.slice, run_underlying ht, Instr.sliceBounds, Instr.sliceBound, asIntOf, h1, hs, hk]
  intro _
  cases a <;> simp [Addr.add]
theorem run_slLo (a : Option Addr) (n cap k : Nat) (hk : k ≤ n) (w : World) : (Instr.sliceAt 37 (.slice a n cap) (some (.int .i64 k)) none none).run Try.prog w = .ok (.slice (if cap = k then a else a.map (·.add (k * 34))) (n - k) (cap - k)) w := by
  have hs : (sizeOf 29).run Try.prog w = .ok 34 w := Try.sizeOf29 w
  have ht := Try.underlying37
  have h37 : Try.prog.underlying 37 = some (.slice (Try.prog.elem 37)) := by kernel_rfl
  refine (run_sliceAt_slice _ _ _ _ _ _ h37).trans ?_
  have h1 : (0 : Int) ≤ k ∧ (k : Int) ≤ n := by omega
  simp [Instr.slice, run_underlying ht, Instr.sliceBounds, Instr.sliceBound, asIntOf, h1, hs, hk]

/-- A slicing is taken first. -/
theorem held_slice {P : Program} {ops : Array Oper} {Q : Exit → Act → World → Prop} {S : World → Prop} (i : Nat) {oi : Oper} {fuel : Nat} {listed : Array Bool} {a : Act} {w : World} (hi : ops[i]? = some oi)
    (hs : Region.noSelect ops = true) (hf : Region.free .any ops listed i = true) (hr : (Region.ready .any ops listed).contains i = true)
    (hQ : ∀ v c a w, Q (.panic c) (a.put oi.dst v) w → Q (.panic c) a w) (hw : Region.wanted oi (yielded ops a.tmps) = true) (t : TypeId) (x : Operand) (lo hi' mx : Option Operand) (ho : oi.op = .slice t x lo hi' mx)
    (xv : Value) (lv hv mv : Option Value) (hx : a.eval x = xv) (hl : lo.map a.eval = lv) (hh : hi'.map a.eval = hv) (hm : mx.map a.eval = mv) (v : Value) (hrun : ∀ u, (Instr.sliceAt t xv lv hv mv).run P u = .ok v u) (hS : S w)
    (h : wpAnyH P .any ops Q S fuel (listed.setIfInBounds i true) (a.put oi.dst v) w) : wpAnyH P .any ops Q S (fuel + 1) listed a w :=
  wpAnyH_take hi hs hf hr (hQ _) (.inl ⟨hw, fun u _ => by
    unfold execOp
    simp only [ho, hx, hl, hh, hm, Sem.run_bind, hrun, Result.andThen_ok, Sem.run_pure]⟩) hS h

/-- The append of several structs, carried out in a region that draws its order. -/
theorem wp_appEls {α : Type} {sz : Nat} {El : (Value → Prop) → World → Array Value → α → Prop} (E : ElOK sz El) {t e : TypeId} {z : Value} {bytes : Nat} (ht : Try.prog.underlying t = some (.slice e)) (hinfo : (Try.prog.info? e).map (fun i => (i.zero, i.size, i.bytes)) = some (some z, sz, bytes)) (hzs : z.cells.size = sz) (hsz : 0 < sz)
    {o : Oper} {a : Act} {w : World} {K : Act → World → Prop} {Q : Exit → Act → World → Prop} (s x : Operand)
    (ho : o.op = .call { callee := .builtin .append, args := #[s, x], argTypes := #[t, t] })
    (B : Nat) (v : Value) (ds : List α) (hs : a.eval s = v) (hown : OwnEl El e sz w B v ds) (ad : Option Addr) (n c : Nat) (es : List α) (Ys : List (Array Value)) (hx : a.eval x = .slice ad n c) (hn : es.length = n) (hy : es.length = 0 ∨ ∃ b off, ad = some ⟨b, off, none⟩ ∧ w.rangeAt b off (rowsL Ys)) (hA : AllEl El (OffB v) w Ys es)
    (h47 : (ds.length + es.length) * bytes ≤ 140737488355328) (hm : ds.length + es.length ≤ maxLen) (hB : B ≤ w.heap.size)
    (h : ∀ v' w', OwnEl El e sz w' B v' (ds ++ es) → w.grownBy w' v.ownBlock → (v'.ownBlock = v.ownBlock ∨ v'.ownBlock = some w.heap.size) → K (a.put o.dst v') w') : o.wp Try.prog a w K Q := by
  subst hn
  obtain ⟨v', w', h1, h2, h3, h4⟩ := run_appEls E (ty := o.type) ht hinfo hzs hsz w B v ds hown ad c es Ys hy hA h47 hm hB
  unfold Oper.wp execOp
  simp only [ho, resolve, invoke, builtin, Sem.run_bind, Sem.run_pure, Result.andThen_ok, List.map_toArray, List.map_cons, List.map_nil, hs, hx, h1]
  exact h v' w' h2 h3 h4

/-- A table at its place. -/
def AddR (ds : List (CpD × List Int)) (c : CpD) (l : List Int) (ds' : List (CpD × List Int)) : Prop :=
  ∃ k, k ≤ ds.length ∧ (∀ j (hj : j < ds.length), j < k → ltC ds[j].1 c) ∧ (∀ hk : k < ds.length, ¬ ltC ds[k].1 c) ∧ ds' = ds.take k ++ (c, l) :: ds.drop k

theorem rowsL_split (Xs : List (Array Value)) (k : Nat) : rowsL Xs = rowsL (Xs.take k) ++ rowsL (Xs.drop k) := by rw [← rowsL_app, List.take_append_drop]

theorem tabs_cut {w : World} {a : Option Addr} {cap k : Nat} {Xs : List (Array Value)} {ds : List (CpD × List Int)} (hA : AllEl (TabEl 0 False) (fun _ => True) w Xs ds) (hk : k ≤ ds.length)
    (hr : ds.length = 0 ∨ ∃ b off, a = some ⟨b, off, none⟩ ∧ b < w.heap.size ∧ w.rangeAt b off (rowsL Xs)) (hc : ds.length ≤ cap) {la : Option Addr} (hla : (if cap = k then a else a.map (·.add (k * 34))) = la) :
    ((ds.take k).length = 0 ∨ ∃ b off, a = some ⟨b, off, none⟩ ∧ b < w.heap.size ∧ w.rangeAt b off (rowsL (Xs.take k))) ∧ ((ds.drop k).length = 0 ∨ ∃ b off, la = some ⟨b, off, none⟩ ∧ b < w.heap.size ∧ w.rangeAt b off (rowsL (Xs.drop k))) := by
  rcases hr with h0 | ⟨b, off, rfl, hb, hr⟩
  · exact ⟨.inl (by simp; omega), .inl (by simp; omega)⟩
  · have hsz : ∀ X ∈ Xs.take k, X.size = 34 := fun X hX => hA.sizes (tabOK 0 False) X (List.mem_of_mem_take hX)
    have hl : (rowsL (Xs.take k)).length = k * 34 := by rw [rowsL_len hsz, List.length_take, hA.1, Nat.min_eq_left hk]
    rw [rowsL_split Xs k] at hr
    refine ⟨.inr ⟨b, off, rfl, hb, fun j u hj => hr j u ?_⟩, ?_⟩
    · have := (List.getElem?_eq_some_iff.1 hj).1
      rw [List.getElem?_append_left this]; exact hj
    · by_cases hck : cap = k
      · exact .inl (by simp; omega)
      · rw [if_neg hck] at hla
        subst hla
        refine .inr ⟨b, off + k * 34, by simp [Go.WideShapes.add_plain], hb, fun j u hj => ?_⟩
        have := hr (k * 34 + j) u (by rw [List.getElem?_append_right (by omega), hl, Nat.add_sub_cancel_left]; exact hj)
        rwa [Nat.add_assoc]

theorem hS_at {w u : World} {a : Option Addr} {n : Nat} {Ys : List (Array Value)} (h : n = 0 ∨ ∃ b off, a = some ⟨b, off, none⟩ ∧ b < w.heap.size ∧ w.rangeAt b off (rowsL Ys)) (hb : Below w.heap.size w u) : n = 0 ∨ ∃ b off, a = some ⟨b, off, none⟩ ∧ u.rangeAt b off (rowsL Ys) := by
  rcases h with h | ⟨b, off, e, hlt, hr⟩
  · exact .inl h
  · exact .inr ⟨b, off, e, Below.rng hb hlt hr⟩

set_option maxHeartbeats 8000000 in
theorem addt_any (v : Value) (ds : List (CpD × List Int)) (c : CpD) (tv : Value) (l : List Int) (w : World) (h : TabsC w v ds) (hc : c.ok) (hI : NumsV w tv l) (hm : ds.length ≤ 1000) (hl : l.length ≤ 1000000) :
    Calls Try.prog 30 #[v, .agg (flatP [c.cells, [tv]])] w fun e w' => (∃ v' ds', e = .returned v' ∧ TabsC w' v' ds' ∧ AddR ds c l ds') ∧ Below w.heap.size w w' := by
  obtain ⟨hv, a, cap, rfl, hcap, _⟩ := h
  obtain ⟨Xs, hA, hrow⟩ := hv.row
  have HV := Lib.hid hv
  have HA := Lib.hid hA
  have HRW := Lib.hid hrow
  have HC := Lib.hid hc
  have HO := Lib.hid (tabOff hc tv)
  have HI := Lib.hid hI
  have hi33 := infoCp hc
  have HCK := Lib.hid (fun (d : CpD) (u : World) (hd : d.ok) => cmpK_any d c u hd hc)
  obtain ⟨X, HX⟩ : ∃ X, Hid (flatP [c.cells, [tv]] = X) := ⟨_, Lib.hid rfl⟩
  rw [HX.out]
  have hX : X.size = 34 := by rw [← HX.out]; exact HO.out.2.2
  have HBA := Lib.hid ((Below.refl w.heap.size w).alloc (Nat.le_refl _) (.cells X 29))
  have HT : Hid (Blk (w.alloc (.cells X 29)) w.heap.size X) := Blk.new rfl
  have hTP : ∀ {u : World} {b : Nat}, Blk u b X → u.rangeAt b 0 c.cells := fun {u b} hb => by
    rw [← HX.out] at hb
    exact hb.part (k := 0) rfl
  have HTP : Hid (∀ (u : World) (b : Nat), Blk u b X → u.rangeAt b 0 c.cells) := fun u b hb => hTP hb
  clear hv hA hrow hc hI hTP
  go_enter Try.func30, Try.ntmps30
  go_wp2_with fail
  go_loopw [5] (fun i wr => ∃ k : Nat, k ≤ ds.length ∧ i = .int .i64 k ∧ Below w.heap.size w wr ∧ Blk wr w.heap.size X ∧ ∀ j (hj : j < ds.length), j < k → ltC ds[j].1 c) (fun i _ => ds.length - (intOf i).toNat)
  case atStart => exact ⟨0, Nat.zero_le _, rfl, HBA.out, HT.out, fun j _ hj => absurd hj (by omega)⟩
  case round =>
    obtain ⟨k, hk, rfl, hbel, hblk, hall⟩ := hrel
    have HBL := Lib.hid hbel
    have HBK := Lib.hid hblk
    have HAL := Lib.hid hall
    clear hbel hblk hall
    have hexit : ∃ q : Bool, (q = true → ∃ hk : k < ds.length, ltC ds[k].1 c) ∧ (q = false → ∀ hk : k < ds.length, ¬ ltC ds[k].1 c) := by
      by_cases hlt : k < ds.length
      · by_cases h2 : ltC ds[k].1 c
        · exact ⟨true, fun _ => ⟨hlt, h2⟩, fun h => by cases h⟩
        · exact ⟨false, (fun h => by cases h), fun _ _ => h2⟩
      · exact ⟨false, (fun h => by cases h), fun _ h => absurd h hlt⟩
    have HCOND : Hid (∃ q : Bool, (q = true → ∃ hk : k < ds.length, ltC ds[k].1 c) ∧ (q = false → ∀ hk : k < ds.length, ¬ ltC ds[k].1 c)) := hexit
    clear hexit
    by_cases hlt : k < ds.length
    · obtain ⟨b, off, x, n, y, rfl, _, hbl, hr, hck, _⟩ := (HV.out.below HBL.out).elem hlt
      have HR := Lib.hid (elem_cp hr)
      have HBLT := Lib.hid hbl
      have HK := Lib.hid (fun u => HCK.out ds[k].1 u hck)
      have hi2 : (Try.prog.info? 26).map (·.size) = some (ds[k].1.cells).length := by rw [CpD.len hck]; kernel_rfl
      have hi3 : (Try.prog.info? 26).map (·.size) = some c.cells.length := by simpa using hi33
      unfold cpX at HK
      obtain ⟨R, hR⟩ : ∃ R, Hid (cfC ds[k].1 c = R) := ⟨_, Lib.hid rfl⟩
      rw [hR.out] at HK
      have HLT : Hid (R < 0 ↔ ltC ds[k].1 c) := by show _ ↔ _; rw [← hR.out]; exact cfC_lt
      obtain ⟨Y, hY⟩ : ∃ Y, Hid (ds[k].1.cells = Y) := ⟨_, Lib.hid rfl⟩
      rw [hY.out] at HR HK hi2
      obtain ⟨C, hC⟩ : ∃ C, Hid (c.cells = C) := ⟨_, Lib.hid rfl⟩
      rw [hC.out] at HK hi3 HTP
      clear hr hbl hck
      go_wp2_with fail
      refine wp_region_fam2 (by kernel_rfl) (by kernel_rfl) ?_
      intro T F hT hF hG
      have C1 := Lib.hid (show ∀ u, (∃ t, u = F t) → u.rangeAt b (off + k * 34) Y by rintro _ ⟨t, rfl⟩; exact Below.rng (hF t) HBLT.out HR.out)
      have C2 := Lib.hid (show ∀ u, (∃ t, u = F t) → u.rangeAt w.heap.size 0 C by rintro _ ⟨t, rfl⟩; exact HTP.out _ _ (HBK.out.call (hF t)))
      repeat (first
        | ((with_reducible refine at_qload (.tmp 14) ?_); refine wpQuiet_load_midE 26 _ rfl b (off + k * 34) rfl Y C1.out Try.underlying26 rfl hi2 (by kernel_rfl) ?_; simp only [Act.put, List.setIfInBounds_toArray, List.set_cons_succ, List.set_cons_zero])
        | ((with_reducible refine at_qload (.tmp 16) ?_); refine wpQuiet_load_midE 26 _ rfl w.heap.size 0 rfl C C2.out Try.underlying26 rfl hi3 (by kernel_rfl) ?_; simp only [Act.put, List.setIfInBounds_toArray, List.set_cons_succ, List.set_cons_zero])
        | (go_big_quiet_step ((go_at_call 40; exact fam_call hF hG (Nat.le_refl _) (HK.out _)))))
      refine wpQuiet_nil ?_
      rintro _ ⟨t, rfl⟩
      have HF := Lib.hid (HBL.out.trans ((hF t).mono HBL.out.size))
      have HFB := Lib.hid (HBK.out.call (hF t))
      clear C1 C2 hF hG
      obtain ⟨u, hu⟩ : ∃ u, F t = u := ⟨_, rfl⟩
      rw [hu] at HF HFB
      rw [hu]
      clear hu hT
      clear t F T
      by_cases hneg : R < 0
      · go_wp2_with fail
        go_roundw
        case rel => exact ⟨k + 1, by omega, by go_num, HF.out, HFB.out, fun j hj hjk => by
          by_cases e : j = k
          · subst e; exact HLT.out.1 hneg
          · exact HAL.out j hj (by omega)⟩
        case measure => simp [intOf]; omega
      · have HNX : Hid (∀ hk : k < ds.length, ¬ ltC ds[k].1 c) := fun _ h => hneg (HLT.out.2 h)
        clear HLT HK HR HBLT hY hi2 HBL HBK
        go_wp2_with fail
        obtain ⟨la, hla⟩ : ∃ la : Option Addr, (if cap = k then (some ⟨b, off, none⟩) else Option.map (fun x : Addr => x.add (k * 34)) (some ⟨b, off, none⟩)) = la := ⟨_, rfl⟩
        have HCUT := Lib.hid (tabs_cut HA.out hk HRW.out hcap hla)
        have HHI := Lib.hid (fun u => run_slHi (some ⟨b, off, none⟩) ds.length cap k (by omega) u)
        have HLO := Lib.hid (fun u => run_slLo (some ⟨b, off, none⟩) ds.length cap k (by omega) u)
        rw [hla] at HLO
        clear hla
        have HD : Hid (Below w.heap.size w u.drew) := ⟨HF.out.os, HF.out.tape, HF.out.output, HF.out.size, HF.out.block⟩
        have HFBd : Hid (Blk u.drew w.heap.size X) := HFB.out.call ⟨rfl, rfl, rfl, Nat.le_refl _, fun _ _ => rfl⟩
        have hiX : (Try.prog.info? 29).map (·.size) = some X.toList.length := by rw [Array.length_toList, hX]; kernel_rfl
        have HCT := Lib.hid (fun z hz => copyt_any c tv l z HC.out hz hl)
        rw [HX.out] at HCT
        refine wp_region_held_drew (S := fun z => Blk z w.heap.size X) (by kernel_rfl) (HFBd.out) (fun _ => ?_)
        (try simp only [Act.put, List.setIfInBounds_toArray, List.set_cons_zero, List.set_cons_succ])
        refine wpAnyH_take (i := 0) (oi := ⟨some 23, _, _, _, _, _⟩) (v := .slice (some ⟨b, off, none⟩) ds.length cap) rfl (by kernel_rfl) (by kernel_rfl) (by kernel_rfl) (fun _ _ _ h => h) (Or.inl ⟨by rfl, fun wz hz => ?_⟩) HFBd.out ?_
        · clear hz; go_simp; first | done | with_reducible rfl | rfl
        (try simp only [Act.put, List.setIfInBounds_toArray, List.set_cons_zero, List.set_cons_succ])
        refine wpAnyH_take (i := 1) (oi := ⟨some 24, _, _, _, _, _⟩) (v := .int .i64 k) rfl (by kernel_rfl) (by kernel_rfl) (by kernel_rfl) (fun _ _ _ h => h) (Or.inl ⟨by rfl, fun wz hz => ?_⟩) HFBd.out ?_
        · clear hz; go_simp; first | done | with_reducible rfl | rfl
        (try simp only [Act.put, List.setIfInBounds_toArray, List.set_cons_zero, List.set_cons_succ])
        refine held_slice 2 (oi := ⟨some 25, _, _, _, _, _⟩) rfl (by kernel_rfl) (by kernel_rfl) (by kernel_rfl) (fun _ _ _ _ h => h) rfl 37 (.tmp 23) _ _ _ rfl (.slice (some ⟨b, off, none⟩) ds.length cap) none (some (.int .i64 k)) none rfl rfl rfl rfl (.slice (some ⟨b, off, none⟩) k cap) HHI.out HFBd.out ?_
        (try simp only [Act.put, List.setIfInBounds_toArray, List.set_cons_zero, List.set_cons_succ])
        refine wpAnyH_take (i := 8) (oi := ⟨some 31, _, _, _, _, _⟩) (v := .slice (some ⟨b, off, none⟩) ds.length cap) rfl (by kernel_rfl) (by kernel_rfl) (by kernel_rfl) (fun _ _ _ h => h) (Or.inl ⟨by rfl, fun wz hz => ?_⟩) HFBd.out ?_
        · clear hz; go_simp; first | done | with_reducible rfl | rfl
        (try simp only [Act.put, List.setIfInBounds_toArray, List.set_cons_zero, List.set_cons_succ])
        refine wpAnyH_take (i := 9) (oi := ⟨some 32, _, _, _, _, _⟩) (v := .int .i64 k) rfl (by kernel_rfl) (by kernel_rfl) (by kernel_rfl) (fun _ _ _ h => h) (Or.inl ⟨by rfl, fun wz hz => ?_⟩) HFBd.out ?_
        · clear hz; go_simp; first | done | with_reducible rfl | rfl
        (try simp only [Act.put, List.setIfInBounds_toArray, List.set_cons_zero, List.set_cons_succ])
        refine held_slice 10 (oi := ⟨some 33, _, _, _, _, _⟩) rfl (by kernel_rfl) (by kernel_rfl) (by kernel_rfl) (fun _ _ _ _ h => h) rfl 37 (.tmp 31) _ _ _ rfl (.slice (some ⟨b, off, none⟩) ds.length cap) (some (.int .i64 k)) none none rfl rfl rfl rfl (.slice la (ds.length - k) (cap - k)) HLO.out HFBd.out ?_
        (try simp only [Act.put, List.setIfInBounds_toArray, List.set_cons_zero, List.set_cons_succ])
        refine held_load (oi := ⟨some 27, _, _, _, _, _⟩) 4 rfl (by kernel_rfl) (by kernel_rfl) (by kernel_rfl) (fun _ _ _ _ h => h) rfl 29 (.tmp 3) rfl w.heap.size 0 rfl X.toList _ (fun u' hu => hu.range) Try.underlying29 rfl hiX HFBd.out ?_
        simp only [Array.toArray_toList]
        (try simp only [Act.put, List.setIfInBounds_toArray, List.set_cons_zero, List.set_cons_succ])
        refine wpAnyH_ready (rs := [3]) (by kernel_rfl) (by simp) ?_
        refine AllReadyH.cons rfl (fun K hK => ?_) AllReadyH.nil
        refine wp_appEls (tabOK 0 False) Try.underlying37 info_tab (by rfl) (by omega) (.const (.slice none 0 0)) (.tmp 25) rfl (w.heap.size + 1) nilS [] rfl (OwnEl.nil _ _) (some ⟨b, off, none⟩) k cap (ds.take k) (Xs.take k) rfl (by rw [List.length_take]; omega) (hS_at HCUT.out.1 HD.out) ((HA.out.split k).1.imp fun Y d hY => tabEl_off hY HD.out (fun n e => by cases e)) (by simp; omega) (by simp; unfold maxLen; omega) HFBd.out.lt ?_
        intro v3 w3 ho3 hg3 _
        rw [List.nil_append] at ho3
        have HO3 := Lib.hid ho3
        have HBG := Lib.hid (grown_below (show u.drew.grownBy w3 none from hg3))
        have HB3 := Lib.hid (HD.out.trans (HBG.out.mono HD.out.size))
        have HFB3 := Lib.hid (HFBd.out.call HBG.out)
        clear ho3 hg3
        refine hK.out _ _ HFB3.out (fun _ => ?_)
        clear hK K
        (try simp only [Act.put, List.setIfInBounds_toArray, List.set_cons_zero, List.set_cons_succ])
        refine wpAnyH_ready (rs := [5]) (by kernel_rfl) (by simp) ?_
        refine AllReadyH.cons rfl (fun K hK => ?_) AllReadyH.nil
        go_simp
        refine (HCT.out w3 (HI.out.below HB3.out)).mono ?_
        rintro e w5 ⟨⟨a5, k5, rfl, hn5, hw5⟩, hb5⟩
        have HN5 := Lib.hid hn5
        have HW5 := Lib.hid hw5
        have HB35 := Lib.hid hb5
        have HFB5 := Lib.hid (HFB3.out.call hb5)
        clear hn5 hw5 hb5
        refine hK.out _ _ HFB5.out (fun _ => ?_)
        clear hK K
        (try simp only [Act.put, List.setIfInBounds_toArray, List.set_cons_zero, List.set_cons_succ])
        obtain ⟨Y, hY⟩ : ∃ Y, Hid (flatP [c.cells, [.slice a5 l.length k5]] = Y) := ⟨_, Lib.hid rfl⟩
        rw [hY.out]
        have HYS : Hid (Y.size = 34) := by show _ = _; rw [← hY.out]; exact (tabOff HC.out _).2.2
        have HBE := Lib.hid (buildEl (P := Try.prog) (t := 37) (e := 29) (Z := flatP [zeC.cells, [nilS]]) (X := Y) (sz := 34) Try.underlying37 (fun w => by kernel_rfl) (by kernel_rfl) (by rfl) HYS.out (by omega) (by omega) w5)
        have HFB6 := Lib.hid (HFB5.out.alloc (.cells Y 29))
        refine wpAnyH_ready (rs := [6]) (by kernel_rfl) (by simp) ?_
        refine AllReadyH.cons rfl (fun K hK => ?_) AllReadyH.nil
        refine wp_buildSlice 37 1 _ rfl #[(0, .agg Y)] (by simp [Act.eval, Act.put]) _ HBE.out ?_
        refine hK.out _ _ HFB6.out (fun _ => ?_)
        clear hK K
        (try simp only [Act.put, List.setIfInBounds_toArray, List.set_cons_zero, List.set_cons_succ])
        have HB36 := Lib.hid (HB35.out.alloc HB35.out.size (.cells Y 29))
        have HB6 := Lib.hid (HB3.out.trans (HB36.out.mono HB3.out.size))
        have HO6 := Lib.hid (HO3.out.call (tabOK _ _) HB36.out)
        have HA56 : Hid (Below w5.heap.size w5 (w5.alloc (.cells Y 29))) := (Below.refl _ _).alloc (Nat.le_refl _) _
        have HEL : Hid (TabEl 0 False (OffB v3) (w5.alloc (.cells Y 29)) Y (c, l)) := ⟨HC.out, a5, l.length, k5, hY.out.symm, HN5.out.below HA56.out, HW5.out.mono (Nat.zero_le _), (fun h => h.elim), fun g hg => HW5.out.off ((HO3.out.lt g hg).2)⟩
        refine wpAnyH_ready (rs := [7]) (by kernel_rfl) (by simp) ?_
        refine AllReadyH.cons rfl (fun K hK => ?_) AllReadyH.nil
        refine wp_appEl (tabOK 0 False) Try.underlying37 info_tab (by rfl) (by omega) (.tmp 26) (.tmp 29) rfl (w.heap.size + 1) v3 (ds.take k) rfl HO6.out w5.heap.size 1 Y (c, l) rfl HEL.out (Blk.new rfl).range (by simp; omega) (by simp; unfold maxLen; omega) HFB6.out.lt ?_
        intro v7 w7 ho7 hg7 _
        have HO7 := Lib.hid ho7
        have HB7 := Lib.hid (HB6.out.grown hg7 HB6.out.size (fun j hj => by have := (HO6.out.lt j hj).1; omega))
        have HFB7 := Lib.hid (HFB6.out.grown hg7 (fun e => by have h1 := (HO6.out.lt _ e.symm).1; omega))
        clear ho7 hg7
        refine hK.out _ _ HFB7.out (fun _ => ?_)
        clear hK K
        (try simp only [Act.put, List.setIfInBounds_toArray, List.set_cons_zero, List.set_cons_succ])
        refine wpAnyH_ready (rs := [11]) (by kernel_rfl) (by simp) ?_
        refine AllReadyH.cons rfl (fun K hK => ?_) AllReadyH.nil
        refine wp_appEls (tabOK 0 False) Try.underlying37 info_tab (by rfl) (by omega) (.tmp 30) (.tmp 33) rfl (w.heap.size + 1) v7 _ rfl HO7.out la (ds.length - k) (cap - k) (ds.drop k) (Xs.drop k) rfl (by simp) (hS_at HCUT.out.2 HB7.out) ((HA.out.split k).2.imp fun Y d hY => tabEl_off hY HB7.out (fun n e => by have := (HO7.out.lt n e).1; omega)) (by simp; omega) (by simp; unfold maxLen; omega) HFB7.out.lt ?_
        intro v8 w8 ho8 hg8 _
        have HO8 := Lib.hid ho8
        have HB8 := Lib.hid (HB7.out.grown hg8 HB7.out.size (fun j hj => by have := (HO7.out.lt j hj).1; omega))
        have HFB8 := Lib.hid (HFB7.out.grown hg8 (fun e => by have h1 := (HO7.out.lt _ e.symm).1; omega))
        clear ho8 hg8
        refine hK.out _ _ HFB8.out (fun _ => ?_)
        clear hK K
        (try simp only [Act.put, List.setIfInBounds_toArray, List.set_cons_zero, List.set_cons_succ])
        refine wpAnyH_ready (rs := [12]) (by kernel_rfl) (by simp) ?_
        refine AllReadyH.cons rfl (fun K hK => ?_) AllReadyH.nil
        go_simp
        refine hK.out _ _ (HFB8.out) (fun _ => ?_)
        clear hK K
        (try simp only [Act.put, List.setIfInBounds_toArray, List.set_cons_zero, List.set_cons_succ])
        refine wpAnyH_done (by kernel_rfl) ?_ _
        go_wp2_with fail
        go_ret
        refine ⟨⟨_, _, rfl, HO8.out.tabsC, k, hk, HAL.out, HNX.out, by simp⟩, HB8.out⟩
    · have HNX : Hid (∀ hk : k < ds.length, ¬ ltC ds[k].1 c) := fun h => absurd h hlt
      go_wp2_with fail
      refine wp_region_fam2 (by kernel_rfl) (by kernel_rfl) ?_
      intro T F hT hF hG
      repeat (go_big_quiet_step (fail))
      refine wpQuiet_nil ?_
      rintro _ ⟨t, rfl⟩
      have HF := Lib.hid (HBL.out.trans ((hF t).mono HBL.out.size))
      have HFB := Lib.hid (HBK.out.call (hF t))
      clear hF hG
      obtain ⟨u, hu⟩ : ∃ u, F t = u := ⟨_, rfl⟩
      rw [hu] at HF HFB
      rw [hu]
      clear hu hT
      clear t F T
      clear HBL HBK
      go_wp2_with fail
      obtain ⟨la, hla⟩ : ∃ la : Option Addr, (if cap = k then a else Option.map (fun x : Addr => x.add (k * 34)) a) = la := ⟨_, rfl⟩
      have HCUT := Lib.hid (tabs_cut HA.out hk HRW.out hcap hla)
      have HHI := Lib.hid (fun u => run_slHi a ds.length cap k (by omega) u)
      have HLO := Lib.hid (fun u => run_slLo a ds.length cap k (by omega) u)
      rw [hla] at HLO
      clear hla
      have HD : Hid (Below w.heap.size w u.drew) := ⟨HF.out.os, HF.out.tape, HF.out.output, HF.out.size, HF.out.block⟩
      have HFBd : Hid (Blk u.drew w.heap.size X) := HFB.out.call ⟨rfl, rfl, rfl, Nat.le_refl _, fun _ _ => rfl⟩
      have hiX : (Try.prog.info? 29).map (·.size) = some X.toList.length := by rw [Array.length_toList, hX]; kernel_rfl
      have HCT := Lib.hid (fun z hz => copyt_any c tv l z HC.out hz hl)
      rw [HX.out] at HCT
      refine wp_region_held_drew (S := fun z => Blk z w.heap.size X) (by kernel_rfl) (HFBd.out) (fun _ => ?_)
      (try simp only [Act.put, List.setIfInBounds_toArray, List.set_cons_zero, List.set_cons_succ])
      refine wpAnyH_take (i := 0) (oi := ⟨some 23, _, _, _, _, _⟩) (v := .slice a ds.length cap) rfl (by kernel_rfl) (by kernel_rfl) (by kernel_rfl) (fun _ _ _ h => h) (Or.inl ⟨by rfl, fun wz hz => ?_⟩) HFBd.out ?_
      · clear hz; go_simp; first | done | with_reducible rfl | rfl
      (try simp only [Act.put, List.setIfInBounds_toArray, List.set_cons_zero, List.set_cons_succ])
      refine wpAnyH_take (i := 1) (oi := ⟨some 24, _, _, _, _, _⟩) (v := .int .i64 k) rfl (by kernel_rfl) (by kernel_rfl) (by kernel_rfl) (fun _ _ _ h => h) (Or.inl ⟨by rfl, fun wz hz => ?_⟩) HFBd.out ?_
      · clear hz; go_simp; first | done | with_reducible rfl | rfl
      (try simp only [Act.put, List.setIfInBounds_toArray, List.set_cons_zero, List.set_cons_succ])
      refine held_slice 2 (oi := ⟨some 25, _, _, _, _, _⟩) rfl (by kernel_rfl) (by kernel_rfl) (by kernel_rfl) (fun _ _ _ _ h => h) rfl 37 (.tmp 23) _ _ _ rfl (.slice a ds.length cap) none (some (.int .i64 k)) none rfl rfl rfl rfl (.slice a k cap) HHI.out HFBd.out ?_
      (try simp only [Act.put, List.setIfInBounds_toArray, List.set_cons_zero, List.set_cons_succ])
      refine wpAnyH_take (i := 8) (oi := ⟨some 31, _, _, _, _, _⟩) (v := .slice a ds.length cap) rfl (by kernel_rfl) (by kernel_rfl) (by kernel_rfl) (fun _ _ _ h => h) (Or.inl ⟨by rfl, fun wz hz => ?_⟩) HFBd.out ?_
      · clear hz; go_simp; first | done | with_reducible rfl | rfl
      (try simp only [Act.put, List.setIfInBounds_toArray, List.set_cons_zero, List.set_cons_succ])
      refine wpAnyH_take (i := 9) (oi := ⟨some 32, _, _, _, _, _⟩) (v := .int .i64 k) rfl (by kernel_rfl) (by kernel_rfl) (by kernel_rfl) (fun _ _ _ h => h) (Or.inl ⟨by rfl, fun wz hz => ?_⟩) HFBd.out ?_
      · clear hz; go_simp; first | done | with_reducible rfl | rfl
      (try simp only [Act.put, List.setIfInBounds_toArray, List.set_cons_zero, List.set_cons_succ])
      refine held_slice 10 (oi := ⟨some 33, _, _, _, _, _⟩) rfl (by kernel_rfl) (by kernel_rfl) (by kernel_rfl) (fun _ _ _ _ h => h) rfl 37 (.tmp 31) _ _ _ rfl (.slice a ds.length cap) (some (.int .i64 k)) none none rfl rfl rfl rfl (.slice la (ds.length - k) (cap - k)) HLO.out HFBd.out ?_
      (try simp only [Act.put, List.setIfInBounds_toArray, List.set_cons_zero, List.set_cons_succ])
      refine held_load (oi := ⟨some 27, _, _, _, _, _⟩) 4 rfl (by kernel_rfl) (by kernel_rfl) (by kernel_rfl) (fun _ _ _ _ h => h) rfl 29 (.tmp 3) rfl w.heap.size 0 rfl X.toList _ (fun u' hu => hu.range) Try.underlying29 rfl hiX HFBd.out ?_
      simp only [Array.toArray_toList]
      (try simp only [Act.put, List.setIfInBounds_toArray, List.set_cons_zero, List.set_cons_succ])
      refine wpAnyH_ready (rs := [3]) (by kernel_rfl) (by simp) ?_
      refine AllReadyH.cons rfl (fun K hK => ?_) AllReadyH.nil
      refine wp_appEls (tabOK 0 False) Try.underlying37 info_tab (by rfl) (by omega) (.const (.slice none 0 0)) (.tmp 25) rfl (w.heap.size + 1) nilS [] rfl (OwnEl.nil _ _) a k cap (ds.take k) (Xs.take k) rfl (by rw [List.length_take]; omega) (hS_at HCUT.out.1 HD.out) ((HA.out.split k).1.imp fun Y d hY => tabEl_off hY HD.out (fun n e => by cases e)) (by simp; omega) (by simp; unfold maxLen; omega) HFBd.out.lt ?_
      intro v3 w3 ho3 hg3 _
      rw [List.nil_append] at ho3
      have HO3 := Lib.hid ho3
      have HBG := Lib.hid (grown_below (show u.drew.grownBy w3 none from hg3))
      have HB3 := Lib.hid (HD.out.trans (HBG.out.mono HD.out.size))
      have HFB3 := Lib.hid (HFBd.out.call HBG.out)
      clear ho3 hg3
      refine hK.out _ _ HFB3.out (fun _ => ?_)
      clear hK K
      (try simp only [Act.put, List.setIfInBounds_toArray, List.set_cons_zero, List.set_cons_succ])
      refine wpAnyH_ready (rs := [5]) (by kernel_rfl) (by simp) ?_
      refine AllReadyH.cons rfl (fun K hK => ?_) AllReadyH.nil
      go_simp
      refine (HCT.out w3 (HI.out.below HB3.out)).mono ?_
      rintro e w5 ⟨⟨a5, k5, rfl, hn5, hw5⟩, hb5⟩
      have HN5 := Lib.hid hn5
      have HW5 := Lib.hid hw5
      have HB35 := Lib.hid hb5
      have HFB5 := Lib.hid (HFB3.out.call hb5)
      clear hn5 hw5 hb5
      refine hK.out _ _ HFB5.out (fun _ => ?_)
      clear hK K
      (try simp only [Act.put, List.setIfInBounds_toArray, List.set_cons_zero, List.set_cons_succ])
      obtain ⟨Y, hY⟩ : ∃ Y, Hid (flatP [c.cells, [.slice a5 l.length k5]] = Y) := ⟨_, Lib.hid rfl⟩
      rw [hY.out]
      have HYS : Hid (Y.size = 34) := by show _ = _; rw [← hY.out]; exact (tabOff HC.out _).2.2
      have HBE := Lib.hid (buildEl (P := Try.prog) (t := 37) (e := 29) (Z := flatP [zeC.cells, [nilS]]) (X := Y) (sz := 34) Try.underlying37 (fun w => by kernel_rfl) (by kernel_rfl) (by rfl) HYS.out (by omega) (by omega) w5)
      have HFB6 := Lib.hid (HFB5.out.alloc (.cells Y 29))
      refine wpAnyH_ready (rs := [6]) (by kernel_rfl) (by simp) ?_
      refine AllReadyH.cons rfl (fun K hK => ?_) AllReadyH.nil
      refine wp_buildSlice 37 1 _ rfl #[(0, .agg Y)] (by simp [Act.eval, Act.put]) _ HBE.out ?_
      refine hK.out _ _ HFB6.out (fun _ => ?_)
      clear hK K
      (try simp only [Act.put, List.setIfInBounds_toArray, List.set_cons_zero, List.set_cons_succ])
      have HB36 := Lib.hid (HB35.out.alloc HB35.out.size (.cells Y 29))
      have HB6 := Lib.hid (HB3.out.trans (HB36.out.mono HB3.out.size))
      have HO6 := Lib.hid (HO3.out.call (tabOK _ _) HB36.out)
      have HA56 : Hid (Below w5.heap.size w5 (w5.alloc (.cells Y 29))) := (Below.refl _ _).alloc (Nat.le_refl _) _
      have HEL : Hid (TabEl 0 False (OffB v3) (w5.alloc (.cells Y 29)) Y (c, l)) := ⟨HC.out, a5, l.length, k5, hY.out.symm, HN5.out.below HA56.out, HW5.out.mono (Nat.zero_le _), (fun h => h.elim), fun g hg => HW5.out.off ((HO3.out.lt g hg).2)⟩
      refine wpAnyH_ready (rs := [7]) (by kernel_rfl) (by simp) ?_
      refine AllReadyH.cons rfl (fun K hK => ?_) AllReadyH.nil
      refine wp_appEl (tabOK 0 False) Try.underlying37 info_tab (by rfl) (by omega) (.tmp 26) (.tmp 29) rfl (w.heap.size + 1) v3 (ds.take k) rfl HO6.out w5.heap.size 1 Y (c, l) rfl HEL.out (Blk.new rfl).range (by simp; omega) (by simp; unfold maxLen; omega) HFB6.out.lt ?_
      intro v7 w7 ho7 hg7 _
      have HO7 := Lib.hid ho7
      have HB7 := Lib.hid (HB6.out.grown hg7 HB6.out.size (fun j hj => by have := (HO6.out.lt j hj).1; omega))
      have HFB7 := Lib.hid (HFB6.out.grown hg7 (fun e => by have h1 := (HO6.out.lt _ e.symm).1; omega))
      clear ho7 hg7
      refine hK.out _ _ HFB7.out (fun _ => ?_)
      clear hK K
      (try simp only [Act.put, List.setIfInBounds_toArray, List.set_cons_zero, List.set_cons_succ])
      refine wpAnyH_ready (rs := [11]) (by kernel_rfl) (by simp) ?_
      refine AllReadyH.cons rfl (fun K hK => ?_) AllReadyH.nil
      refine wp_appEls (tabOK 0 False) Try.underlying37 info_tab (by rfl) (by omega) (.tmp 30) (.tmp 33) rfl (w.heap.size + 1) v7 _ rfl HO7.out la (ds.length - k) (cap - k) (ds.drop k) (Xs.drop k) rfl (by simp) (hS_at HCUT.out.2 HB7.out) ((HA.out.split k).2.imp fun Y d hY => tabEl_off hY HB7.out (fun n e => by have := (HO7.out.lt n e).1; omega)) (by simp; omega) (by simp; unfold maxLen; omega) HFB7.out.lt ?_
      intro v8 w8 ho8 hg8 _
      have HO8 := Lib.hid ho8
      have HB8 := Lib.hid (HB7.out.grown hg8 HB7.out.size (fun j hj => by have := (HO7.out.lt j hj).1; omega))
      have HFB8 := Lib.hid (HFB7.out.grown hg8 (fun e => by have h1 := (HO7.out.lt _ e.symm).1; omega))
      clear ho8 hg8
      refine hK.out _ _ HFB8.out (fun _ => ?_)
      clear hK K
      (try simp only [Act.put, List.setIfInBounds_toArray, List.set_cons_zero, List.set_cons_succ])
      refine wpAnyH_ready (rs := [12]) (by kernel_rfl) (by simp) ?_
      refine AllReadyH.cons rfl (fun K hK => ?_) AllReadyH.nil
      go_simp
      refine hK.out _ _ (HFB8.out) (fun _ => ?_)
      clear hK K
      (try simp only [Act.put, List.setIfInBounds_toArray, List.set_cons_zero, List.set_cons_succ])
      refine wpAnyH_done (by kernel_rfl) ?_ _
      go_wp2_with fail
      go_ret
      refine ⟨⟨_, _, rfl, HO8.out.tabsC, k, hk, HAL.out, HNX.out, by simp⟩, HB8.out⟩

end Go.Proofs.Ytdfemompijhohaa
