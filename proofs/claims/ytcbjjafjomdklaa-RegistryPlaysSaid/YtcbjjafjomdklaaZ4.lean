/- Several texts as one: BkJ, BkK, BkL, BkM, BkN, BkO, BkP, BkQ, BkR, BkS, BkT, BkU. -/
import Derived.Test.YtcbjjafjomdklaaZ1
import Derived.Test.YtcbjjafjomdklaaCl
namespace Go.Proofs.Ytcbjjafjomdklaa

/-! BkJ -/
section
set_option linter.unusedVariables false
set_option linter.unusedSimpArgs false
open Go.RowKit Go.Maps

set_option maxRecDepth 100000

/-- A slice of tables. -/
abbrev TabsV (w : World) (v : Value) (ds : List (CpD × List Int)) : Prop := ElV (TabEl 0 False) 34 w v ds

theorem TabsV.below {w w' : World} {v : Value} {ds : List (CpD × List Int)} (h : TabsV w v ds) (hb : Below w.heap.size w w') : TabsV w' v ds := ElV.below (tabOK _ _) h hb

theorem tabsV_nil (w : World) : TabsV w nilS [] := ⟨none, 0, rfl, Nat.zero_le _, .inl rfl⟩

/-- One table of a slice of tables. -/
theorem TabsV.elem {w : World} {a : Option Addr} {m cap : Nat} {ds : List (CpD × List Int)} (h : TabsV w (.slice a m cap) ds) {k : Nat} (hk : k < ds.length) :
    ∃ b off x n y, a = some ⟨b, off, none⟩ ∧ m = ds.length ∧ b < w.heap.size ∧ w.rangeAt b (off + k * 34) (flatP [ds[k].1.cells, [.slice x n y]]).toList ∧ ds[k].1.ok ∧ NumsV w (.slice x n y) ds[k].2 := by
  obtain ⟨b, off, X, ha, hm, hlt, hr, ⟨hc, x, n, y, rfl, hv, _⟩, _⟩ := h.at (tabOK 0 False) hk
  exact ⟨b, off, x, n, y, ha, hm, hlt, hr, hc, hv⟩

theorem elem_cp {w : World} {b o : Nat} {c : CpD} {v : Value} (h : w.rangeAt b o (flatP [c.cells, [v]]).toList) : w.rangeAt b o c.cells := fun j u hj => by
  refine h j u ?_
  have hl : j < c.cells.length := (List.getElem?_eq_some_iff.1 hj).1
  simp only [flatP, List.flatten_cons, List.flatten_nil, List.append_nil]
  rw [List.getElem?_append_left hl]; exact hj

theorem elem_ep {w : World} {b o : Nat} {c : CpD} {v : Value} (h : w.rangeAt b o (flatP [c.cells, [v]]).toList) : w.cell? ⟨b, o, none⟩ = some (.int .u64 c.n) := elem_cp h 0 _ rfl

theorem elem_v {w : World} {b o : Nat} {c : CpD} {v : Value} (hc : c.ok) (h : w.rangeAt b o (flatP [c.cells, [v]]).toList) : w.cell? ⟨b, o + 33, none⟩ = some v := by
  refine h 33 v ?_
  have hl := CpD.len hc
  simp only [flatP, List.flatten_cons, List.flatten_nil, List.append_nil]
  rw [List.getElem?_append_right (by omega)]
  simp [hl]

def FindR (ds : List (CpD × List Int)) (c : CpD) (i : Int) : Prop := (i = -1 ∧ ∀ d ∈ ds, d.1 ≠ c) ∨ ∃ (k : Nat) (hk : k < ds.length), i = k ∧ ds[k].1 = c

set_option maxHeartbeats 8000000 in
theorem findt_any (v : Value) (ds : List (CpD × List Int)) (c : CpD) (w : World) (h : TabsV w v ds) (hc : c.ok) (hm : ds.length ≤ 1000000) :
    Calls Try.prog 28 #[v, cpX c] w fun e w' => (∃ i, e = .returned (.int .i64 i) ∧ FindR ds c i) ∧ Below w.heap.size w w' := by
  obtain ⟨a, cap, rfl, _⟩ := h.shape
  have HV := Lib.hid h
  have HC := Lib.hid hc
  have hi := infoCp hc
  have hl33 := CpD.len hc
  unfold cpX
  obtain ⟨X, hX⟩ : ∃ X, Hid (c.cells.toArray = X) := ⟨_, rfl⟩
  rw [hX.out] at hi ⊢
  have HBX : Hid (Blk (w.alloc (.cells X 34)) w.heap.size X) := Blk.new rfl
  have HBA := Lib.hid ((Below.refl w.heap.size w).alloc (Nat.le_refl _) (.cells X 34))
  clear h hc
  go_enter Try.func28, Try.ntmps28
  go_wp2_with fail
  go_loopw [5] (fun i wr => ∃ k : Nat, k ≤ ds.length ∧ i = .int .i64 k ∧ Below w.heap.size w wr ∧ Blk wr w.heap.size X ∧ ∀ j (hj : j < ds.length), j < k → ds[j].1 ≠ c) (fun i _ => ds.length - (intOf i).toNat)
  case atStart => exact ⟨0, Nat.zero_le _, rfl, HBA.out, HBX.out, fun j _ hj => absurd hj (by omega)⟩
  case round =>
    obtain ⟨k, hk, rfl, hbel, hblk, hall⟩ := hrel
    have HBL := Lib.hid hbel
    have HBK := Lib.hid hblk
    have HAL := Lib.hid hall
    clear hbel hblk hall
    by_cases hlt : k < ds.length
    · obtain ⟨b, off, x, n, y, rfl, _, hbl, hr, hck, _⟩ := (HV.out.below HBL.out).elem hlt
      have HR := Lib.hid (elem_cp hr)
      have HBLT := Lib.hid hbl
      obtain ⟨q, E2, hq⟩ := eq_cp2 hck HC.out
      have hq' : q = true ↔ ds[k].1 = c := by rw [hq]; exact ⟨CpD.inj, fun e => by rw [e]⟩
      have HQ := Lib.hid hq'
      rw [hX.out] at E2
      have hi2 : (Try.prog.info? 34).map (·.size) = some (ds[k].1.cells).length := by rw [CpD.len hck]; kernel_rfl
      obtain ⟨Y, hY⟩ : ∃ Y, Hid (ds[k].1.cells = Y) := ⟨_, Lib.hid rfl⟩
      rw [hY.out] at HR E2 hi2
      clear hq hq' hr hbl hck
      go_wp2_with fail
      refine wp_region_fam2 (by kernel_rfl) (by kernel_rfl) ?_
      intro T F hT hF hG
      have C1 : ∀ u, (∃ t, u = F t) → u.rangeAt b (off + k * 34) Y := by rintro _ ⟨t, rfl⟩; exact Below.rng (hF t) HBLT.out HR.out
      have C2 : ∀ u, (∃ t, u = F t) → Blk u w.heap.size X := by rintro _ ⟨t, rfl⟩; exact HBK.out.call (hF t)
      have C1' := Lib.hid C1
      have C2' := Lib.hid C2
      clear C1 C2
      repeat (first
        | ((with_reducible refine at_qload (.tmp 15) ?_); refine wpQuiet_load_midE 34 _ rfl b (off + k * 34) rfl Y C1'.out Try.underlying34 rfl hi2 (by kernel_rfl) ?_; simp only [Act.put, List.setIfInBounds_toArray, List.set_cons_succ, List.set_cons_zero])
        | ((with_reducible refine at_qload (.tmp 3) ?_); refine wpQuiet_load 34 _ rfl w.heap.size rfl X C2'.out Try.underlying34 rfl hi (by kernel_rfl) ?_; simp only [Act.put, List.setIfInBounds_toArray, List.set_cons_succ, List.set_cons_zero])
        | (go_big_quiet_step (fail)))
      refine wpQuiet_nil ?_
      rintro _ ⟨t, rfl⟩
      have HF := Lib.hid (HBL.out.trans ((hF t).mono HBL.out.size))
      have HFB := Lib.hid (HBK.out.call (hF t))
      clear C1' C2' hF hG
      cases q
      · go_wp2_with fail
        go_roundw
        case rel => exact ⟨k + 1, by omega, by go_num, HF.out, HFB.out, fun j hj hjk => by
          by_cases e : j = k
          · subst e; exact fun e2 => by have := HQ.out.2 e2; cases this
          · exact HAL.out j hj (by omega)⟩
        case measure => simp [intOf]; omega
      · go_wp2_with fail
        go_ret
        exact ⟨⟨_, rfl, .inr ⟨k, hlt, rfl, HQ.out.1 (by simp)⟩⟩, HF.out⟩
    · go_wp2_with fail
      go_ret
      refine ⟨⟨_, rfl, .inl ⟨rfl, fun d hd => ?_⟩⟩, HBL.out⟩
      obtain ⟨j, hj, rfl⟩ := List.mem_iff_getElem.1 hd
      exact HAL.out j hj (by omega)
end

/-! BkK -/
section
set_option linter.unusedVariables false
set_option linter.unusedSimpArgs false
open Go.RowKit Go.Maps

set_option maxRecDepth 100000

theorem cfC_ne {c d : CpD} (h : c.n < d.n) : cfC c d = -1 := by unfold cfC orV; rw [cmpI_lt h]; rfl

theorem cfC_gt {c d : CpD} (h : d.n < c.n) : cfC c d = 1 := by unfold cfC orV; rw [cmpI_gt h]; rfl

theorem cfC_eq {c d : CpD} (h : c.n = d.n) : cfC c d = cmpB c.r d.r := by unfold cfC orV; rw [h, cmpI_eq]; rfl

theorem cp_parts {w : World} {b : Nat} {c : CpD} (h : Blk w b c.cells.toArray) : w.cell? ⟨b, 0, none⟩ = some (.int .u64 c.n) ∧ w.rangeAt b 1 (bytesL c.r) :=
  ⟨by rw [h.cell]; simp [CpD.cells], fun j v hj => by rw [h.cell, show 1 + j = j + 1 by omega]; simpa [CpD.cells] using hj⟩

set_option maxHeartbeats 4000000 in
theorem cmpK_any (c d : CpD) (w : World) (hc : c.ok) (hd : d.ok) : Calls Try.prog 43 #[cpX c, cpX d] w fun e w' => e = .returned (.int .i64 (cfC c d)) ∧ Below w.heap.size w w' := by
  have HCR := Lib.hid (fun u => cmpR_any c.r d.r hc.2.2 hd.2.2 u)
  unfold cpX
  obtain ⟨X, HX⟩ : ∃ X, Hid (c.cells.toArray = X) := ⟨_, Lib.hid rfl⟩
  obtain ⟨Y, HY⟩ : ∃ Y, Hid (d.cells.toArray = Y) := ⟨_, Lib.hid rfl⟩
  rw [HX.out, HY.out]
  have HBA := Lib.hid (((Below.refl w.heap.size w).alloc (Nat.le_refl _) (.cells X 34)).alloc (by simp) (.cells Y 34))
  have BX : Blk ((w.alloc (.cells X 34)).alloc (.cells Y 34)) w.heap.size c.cells.toArray := by rw [HX.out]; exact (Blk.new rfl).alloc _
  have BY : Blk ((w.alloc (.cells X 34)).alloc (.cells Y 34)) (w.heap.size + 1) d.cells.toArray := by rw [HY.out]; exact Blk.new (by simp)
  have HPX := Lib.hid (cp_parts BX)
  have HPY := Lib.hid (cp_parts BY)
  have HI1 : (Try.prog.info? 28).map (·.size) = some (bytesL c.r).length := by rw [bytesL_len hc.2.2]; kernel_rfl
  have HI2 : (Try.prog.info? 28).map (·.size) = some (bytesL d.r).length := by rw [bytesL_len hd.2.2]; kernel_rfl
  change Hid (∀ u, Calls Try.prog 54 #[.agg (bytesL c.r).toArray, .agg (bytesL d.r).toArray] u fun e w' => e = .returned (.int .i64 (cmpB c.r d.r)) ∧ Below u.heap.size u w') at HCR
  clear BX BY hc hd
  obtain ⟨R, hR⟩ : ∃ R, Hid (cfC c d = R) := ⟨_, Lib.hid rfl⟩
  rw [hR.out]
  obtain ⟨xn, hxn⟩ : ∃ n, Hid (c.n = n) := ⟨_, Lib.hid rfl⟩
  obtain ⟨yn, hyn⟩ : ∃ n, Hid (d.n = n) := ⟨_, Lib.hid rfl⟩
  have c0 : ((w.alloc (.cells X 34)).alloc (.cells Y 34)).cell? ⟨w.heap.size, 0, none⟩ = some (.int .u64 xn) := by rw [← hxn.out]; exact HPX.out.1
  have d0 : ((w.alloc (.cells X 34)).alloc (.cells Y 34)).cell? ⟨w.heap.size + 1, 0, none⟩ = some (.int .u64 yn) := by rw [← hyn.out]; exact HPY.out.1
  have HC0 := Lib.hid c0
  have HD0 := Lib.hid d0
  clear c0 d0
  obtain ⟨rx, hrx⟩ : ∃ n, Hid (bytesL c.r = n) := ⟨_, Lib.hid rfl⟩
  obtain ⟨ry, hry⟩ : ∃ n, Hid (bytesL d.r = n) := ⟨_, Lib.hid rfl⟩
  rw [hrx.out, hry.out] at HCR
  rw [hrx.out] at HPX HI1
  rw [hry.out] at HPY HI2
  rcases Int.lt_trichotomy xn yn with h | h | h
  · have HE : Hid (R = -1) := by show _ = _; rw [← hR.out]; exact cfC_ne (by rw [hxn.out, hyn.out]; exact h)
    rw [HE.out]
    have hq : (xn != yn) = true := by simp; omega
    go_enter Try.func43, Try.ntmps43
    go_wp2_with (first
      | ((with_reducible refine at_load (.tmp 5) ?_); refine wpList_load_1 22 (.tmp 5) rfl w.heap.size 0 (.int .u64 xn) HC0.out rfl _ Try.underlying22 rfl rfl ?_)
      | ((with_reducible refine at_load (.tmp 7) ?_); refine wpList_load_1 22 (.tmp 7) rfl (w.heap.size + 1) 0 (.int .u64 yn) HD0.out rfl _ Try.underlying22 rfl rfl ?_)
      | ((with_reducible refine at_load (.tmp 10) ?_); refine wpList_load_1 22 (.tmp 10) rfl w.heap.size 0 (.int .u64 xn) HC0.out rfl _ Try.underlying22 rfl rfl ?_)
      | ((with_reducible refine at_load (.tmp 12) ?_); refine wpList_load_1 22 (.tmp 12) rfl (w.heap.size + 1) 0 (.int .u64 yn) HD0.out rfl _ Try.underlying22 rfl rfl ?_))
    go_ret
    exact ⟨rfl, HBA.out⟩
  · subst h
    have HE : Hid (R = cmpB c.r d.r) := by show _ = _; rw [← hR.out]; exact cfC_eq (by rw [hxn.out, hyn.out])
    rw [HE.out]
    obtain ⟨rr, hrr⟩ : ∃ r, cmpB c.r d.r = r := ⟨_, rfl⟩
    rw [hrr] at HCR ⊢
    clear hrr
    have hq : (xn != xn) = false := by simp
    go_enter Try.func43, Try.ntmps43
    go_wp2_with (first
      | ((with_reducible refine at_load (.tmp 5) ?_); refine wpList_load_1 22 (.tmp 5) rfl w.heap.size 0 (.int .u64 xn) HC0.out rfl _ Try.underlying22 rfl rfl ?_)
      | ((with_reducible refine at_load (.tmp 7) ?_); refine wpList_load_1 22 (.tmp 7) rfl (w.heap.size + 1) 0 (.int .u64 xn) HD0.out rfl _ Try.underlying22 rfl rfl ?_)
      | ((with_reducible refine at_load (.tmp 15) ?_); refine wpList_load_rng 28 (.tmp 15) rfl w.heap.size 1 rx HPX.out.2 rfl _ Try.underlying28 rfl HI1 rfl ?_)
      | ((with_reducible refine at_load (.tmp 17) ?_); refine wpList_load_rng 28 (.tmp 17) rfl (w.heap.size + 1) 1 ry HPY.out.2 rfl _ Try.underlying28 rfl HI2 rfl ?_)
      | (go_at_call 54; refine (HCR.out _).mono ?_; rintro e w1 ⟨rfl, hb1⟩; have HB1 := Lib.hid (HBA.out.trans (hb1.mono HBA.out.size)); clear hb1))
    go_ret
    exact ⟨rfl, HB1.out⟩
  · have HE : Hid (R = 1) := by show _ = _; rw [← hR.out]; exact cfC_gt (by rw [hxn.out, hyn.out]; exact h)
    rw [HE.out]
    have hq : (xn != yn) = true := by simp; omega
    have hn : ¬ xn < yn := by omega
    go_enter Try.func43, Try.ntmps43
    go_wp2_with (first
      | ((with_reducible refine at_load (.tmp 5) ?_); refine wpList_load_1 22 (.tmp 5) rfl w.heap.size 0 (.int .u64 xn) HC0.out rfl _ Try.underlying22 rfl rfl ?_)
      | ((with_reducible refine at_load (.tmp 7) ?_); refine wpList_load_1 22 (.tmp 7) rfl (w.heap.size + 1) 0 (.int .u64 yn) HD0.out rfl _ Try.underlying22 rfl rfl ?_)
      | ((with_reducible refine at_load (.tmp 10) ?_); refine wpList_load_1 22 (.tmp 10) rfl w.heap.size 0 (.int .u64 xn) HC0.out rfl _ Try.underlying22 rfl rfl ?_)
      | ((with_reducible refine at_load (.tmp 12) ?_); refine wpList_load_1 22 (.tmp 12) rfl (w.heap.size + 1) 0 (.int .u64 yn) HD0.out rfl _ Try.underlying22 rfl rfl ?_))
    go_ret
    exact ⟨rfl, HBA.out⟩

/-- SameTables of two lists that hold the same. -/
theorem stab_yes (c : CpD) (v1 v2 : Value) (l : List Int) (w : World) (hc : c.ok) (h1 : NumsV w v1 l) (h2 : NumsV w v2 l) :
    Calls Try.prog 42 #[.agg (flatP [c.cells, [v1]]), .agg (flatP [c.cells, [v2]])] w fun e w' => e = .returned (.bool true) ∧ Below w.heap.size w w' := by
  refine (stab2 c c v1 v2 l l w hc hc h1 h2).mono ?_
  rintro e w' ⟨b, rfl, hb, hbl⟩
  exact ⟨by rw [hb.2 ⟨rfl, rfl⟩], hbl⟩

set_option maxHeartbeats 8000000 in
theorem stabs_yes {N : Nat} {fr : Prop} (v1 v2 : Value) (ds : List (CpD × List Int)) (w : World) (h1 : ElV (TabEl N fr) 34 w v1 ds) (h2 : TabsV w v2 ds) (hm : ds.length ≤ 1000000) :
    Calls Try.prog 25 #[v1, v2] w fun e w' => e = .returned (.bool true) ∧ Below w.heap.size w w' := by
  obtain ⟨a1, k1, rfl, _⟩ := h1.shape
  obtain ⟨a2, k2, rfl, _⟩ := h2.shape
  have H1 := Lib.hid h1
  have H2 := Lib.hid h2
  have hne : ((ds.length : Int) != ds.length) = false := by simp
  clear h1 h2
  go_enter Try.func25, Try.ntmps25
  go_wp2_with fail
  go_loopw [5] (fun i wr => ∃ k : Nat, k ≤ ds.length ∧ i = .int .i64 k ∧ Below w.heap.size w wr) (fun i _ => ds.length - (intOf i).toNat)
  case atStart => exact ⟨0, Nat.zero_le _, rfl, Below.refl _ _⟩
  case round =>
    obtain ⟨k, hk, rfl, hbel⟩ := hrel
    have HBL := Lib.hid hbel
    clear hbel
    by_cases hlt : k < ds.length
    · obtain ⟨b1, o1, X1, e1, _, hb1, hr1, ⟨hck, x1, n1, y1, hX1, hv1, _⟩, hs1, _⟩ := ElV.at (tabOK N fr) (ElV.below (tabOK N fr) H1.out HBL.out) hlt
      obtain ⟨b2, o2, x2, n2, y2, e2, _, hb2, hr2, _, hv2⟩ := (H2.out.below HBL.out).elem hlt
      subst e1
      subst e2
      have HBT1 := Lib.hid hb1
      have HBT2 := Lib.hid hb2
      have HS := Lib.hid (fun u (hu : Below wr.heap.size wr u) => stab_yes ds[k].1 _ _ ds[k].2 u hck (hv1.below hu) (hv2.below hu))
      have hs2 : (flatP [ds[k].1.cells, [.slice x2 n2 y2]]).size = 34 := (tabOff hck _).2.2
      rw [← hX1] at HS
      obtain ⟨X2, hX2⟩ : ∃ X, flatP [ds[k].1.cells, [.slice x2 n2 y2]] = X := ⟨_, rfl⟩
      rw [hX2] at HS hr2 hs2
      have HR1 := Lib.hid hr1
      have HR2 := Lib.hid hr2
      have hi1 : (Try.prog.info? 36).map (·.size) = some X1.toList.length := by rw [Array.length_toList, hs1]; kernel_rfl
      have hi2 : (Try.prog.info? 36).map (·.size) = some X2.toList.length := by rw [Array.length_toList, hs2]; kernel_rfl
      clear hv1 hv2 hr1 hr2 hb1 hb2 hck hX1 hX2
      go_wp2_with fail
      refine wp_region_fam2 (by kernel_rfl) (by kernel_rfl) ?_
      intro T F hT hF hG
      have C1 := Lib.hid (show ∀ u, (∃ t, u = F t) → u.rangeAt b1 (o1 + k * 34) X1.toList by rintro _ ⟨t, rfl⟩; exact Below.rng (hF t) HBT1.out HR1.out)
      have C2 := Lib.hid (show ∀ u, (∃ t, u = F t) → u.rangeAt b2 (o2 + k * 34) X2.toList by rintro _ ⟨t, rfl⟩; exact Below.rng (hF t) HBT2.out HR2.out)
      have CS := Lib.hid (fun t => HS.out (F t) (hF t))
      repeat (first
        | ((with_reducible refine at_qload (.tmp 19) ?_); refine wpQuiet_load_midE 36 _ rfl b1 (o1 + k * 34) rfl X1.toList C1.out Try.underlying36 rfl hi1 (by kernel_rfl) ?_; simp only [Array.toArray_toList, Act.put, List.setIfInBounds_toArray, List.set_cons_succ, List.set_cons_zero])
        | ((with_reducible refine at_qload (.tmp 23) ?_); refine wpQuiet_load_midE 36 _ rfl b2 (o2 + k * 34) rfl X2.toList C2.out Try.underlying36 rfl hi2 (by kernel_rfl) ?_; simp only [Array.toArray_toList, Act.put, List.setIfInBounds_toArray, List.set_cons_succ, List.set_cons_zero])
        | (go_big_quiet_step ((go_at_call 42; exact fam_call hF hG (Nat.le_refl _) (CS.out _)))))
      refine wpQuiet_nil ?_
      rintro _ ⟨t, rfl⟩
      have HF := Lib.hid (HBL.out.trans ((hF t).mono HBL.out.size))
      clear C1 C2 CS hF hG
      go_wp2_with fail
      go_roundw
      case rel => exact ⟨k + 1, by omega, by go_num, HF.out⟩
      case measure => simp [intOf]; omega
    · go_wp2_with fail
      go_ret
      exact ⟨rfl, HBL.out⟩
end

/-! BkL -/
section
set_option linter.unusedVariables false
set_option linter.unusedSimpArgs false
open Go.RowKit Go.Maps

set_option maxRecDepth 100000

def dropT (ep : Int) (ds : List (CpD × List Int)) : List (CpD × List Int) := ds.filter fun d => decide (ep ≤ d.1.n)

theorem dropT_step {ep : Int} {ds : List (CpD × List Int)} {k : Nat} (hk : k < ds.length) : dropT ep (ds.take (k + 1)) = dropT ep (ds.take k) ++ if ep ≤ ds[k].1.n then [ds[k]] else [] := by
  unfold dropT
  rw [List.take_add_one, List.getElem?_eq_getElem hk, List.filter_append]
  congr 1
  by_cases h : ep ≤ ds[k].1.n <;> simp [h]

theorem dropT_len (ep : Int) (ds : List (CpD × List Int)) : (dropT ep ds).length ≤ ds.length := List.length_filter_le _ _

/-- What lies in a block that was there lies outside the row of a slice of the call's own. -/
theorem tabEl_off {Q : Value → Prop} {fr : Prop} {w wr : World} {X : Array Value} {d : CpD × List Int} {v : Value} (h : TabElP Q fr (fun _ => True) w X d) (hb : Below w.heap.size w wr) (hv : ∀ n, v.ownBlock = some n → w.heap.size ≤ n) : TabElP Q fr (OffB v) wr X d := by
  have hE := tabOKP Q fr
  cases ho : v.ownBlock with
  | none => exact hE.mono (hE.below h hb) fun y _ g e => by rw [ho] at e; cases e
  | some g =>
    refine hE.mono (hE.below (hE.off h (hv g ho)) hb) fun y hy g' e => ?_
    rw [ho] at e; cases e; exact hy.2

/-- A slice of tables whose capacity is one; of what lies behind it Q holds. -/
def TabsCN (Q : Value → Prop) (w : World) (v : Value) (ds : List (CpD × List Int)) : Prop := ElV (TabElP Q False) 34 w v ds ∧ ∃ a c, v = .slice a ds.length c ∧ ds.length ≤ c ∧ c ≤ maxLen

theorem TabsCN.below {Q : Value → Prop} {w w' : World} {v : Value} {ds : List (CpD × List Int)} (h : TabsCN Q w v ds) (hb : Below w.heap.size w w') : TabsCN Q w' v ds := ⟨ElV.below (tabOKP _ _) h.1 hb, h.2⟩

theorem elv_zero {Q : Value → Prop} {w : World} {v : Value} {ds : List (CpD × List Int)} (h : ElV (TabElP Q False) 34 w v ds) : TabsV w v ds := by
  obtain ⟨a, cap, e, hl, hr⟩ := h
  refine ⟨a, cap, e, hl, ?_⟩
  rcases hr with h0 | ⟨b, off, ea, hlt, Xs, h1, h2⟩
  · exact .inl h0
  · refine .inr ⟨b, off, ea, hlt, Xs, h1, h2.1, fun p hp => ?_⟩
    obtain ⟨hc, a', n, k, e, h1, h2, h3, h4⟩ := h2.2 p hp
    exact ⟨hc, a', n, k, e, h1, fun _ _ _ _ _ => Nat.zero_le _, h3, h4⟩

def TabsC (w : World) (v : Value) (ds : List (CpD × List Int)) : Prop := TabsV w v ds ∧ ∃ a c, v = .slice a ds.length c ∧ ds.length ≤ c ∧ c ≤ maxLen

theorem TabsC.below {w w' : World} {v : Value} {ds : List (CpD × List Int)} (h : TabsC w v ds) (hb : Below w.heap.size w w') : TabsC w' v ds := ⟨h.1.below hb, h.2⟩

theorem tabsC_nil (w : World) : TabsC w nilS [] := ⟨tabsV_nil w, none, 0, rfl, Nat.le_refl _, Nat.zero_le _⟩

theorem OwnEl.newT {α : Type} {sz : Nat} {El : (Value → Prop) → World → Array Value → α → Prop} {e : TypeId} {w : World} {B : Nat} {v : Value} {ds : List α} (h : OwnEl El e sz w B v ds) : New B v := by
  intro z l c e' h0
  subst e'
  exact (h.lt _ rfl).1

theorem OwnEl.tabsCN {Q : Value → Prop} {w : World} {B : Nat} {v : Value} {ds : List (CpD × List Int)} (h : OwnEl (TabElP Q False) 36 34 w B v ds) : TabsCN Q w v ds := by
  obtain ⟨a, c, e, _, h1, h2⟩ := h.shape
  exact ⟨h.elV (tabOKP _ _), a, c, e, h1, h2⟩

theorem OwnEl.tabsC {w : World} {B : Nat} {v : Value} {ds : List (CpD × List Int)} (h : OwnEl (TabEl 0 False) 36 34 w B v ds) : TabsC w v ds := OwnEl.tabsCN h
end

/-! BkM -/
section
set_option linter.unusedVariables false
set_option linter.unusedSimpArgs false
open Go.RowKit Go.Maps

set_option maxRecDepth 100000

/-- A row of numbers of the call's own. -/
def OwnN (w : World) (B : Nat) (v : Value) (l : List Int) : Prop := w.ownsRow B 22 1 v l.length (l.map (Value.int .u64))

theorem OwnN.nil (w : World) (B : Nat) : OwnN w B nilS [] := World.ownsRow_nil w B 22 1

theorem OwnN.ints {w : World} {B : Nat} {v : Value} {l : List Int} (h : OwnN w B v l) (hl : l.length ≤ maxLen) : Ints .u64 w v l := Ints.own h hl

theorem OwnN.shape {w : World} {B : Nat} {v : Value} {l : List Int} (h : OwnN w B v l) : ∃ a c, v = .slice a l.length c ∧ l.length ≤ c := by
  rcases h.2 with ⟨rfl, h0⟩ | ⟨g, cap, cur, rfl, _, _, h2, _⟩
  · exact ⟨_, _, by rw [h0], by omega⟩
  · exact ⟨_, _, rfl, h2⟩

theorem OwnN.grown {w w' : World} {B : Nat} {v : Value} {l : List Int} {row : Option Nat} (h : OwnN w B v l) (hg : w.grownBy w' row) (hne : ∀ n, v.ownBlock = some n → some n ≠ row) : OwnN w' B v l := by
  refine ⟨h.1, ?_⟩
  rcases h.2 with h' | ⟨g, cap, cur, rfl, h3, h4, h5⟩
  · exact .inl h'
  · exact .inr ⟨g, cap, cur, rfl, h3, by rw [hg.block g (World.ownsRow.lt h g rfl).2 (hne g rfl)]; exact h4, h5⟩

/-- Numbers are appended. -/
theorem run_appN (w : World) (B : Nat) (ty : TypeId) (v : Value) (l : List Int) (hown : OwnN w B v l) (y : Value) (m : List Int) (hy : Ints .u64 w y m) (h47 : (l.length + m.length) * 8 ≤ 140737488355328) (hB : B ≤ w.heap.size) :
    ∃ v' w', (Builtin.append_ #[29, 29] ty #[v, y]).run Try.prog w = .ok v' w' ∧ OwnN w' B v' (l ++ m) ∧ w.grownBy w' v.ownBlock ∧ (v'.ownBlock = v.ownBlock ∨ v'.ownBlock = some w.heap.size) := by
  obtain ⟨i0, hi, hz0, hz1, hz2⟩ := info_parts info_u64
  obtain ⟨a, len, cap, rfl, hl, hm, hr⟩ := hy
  rcases a with _ | a
  · rcases hr with rfl | ⟨b, off, e, _⟩
    · obtain rfl : m = [] := List.eq_nil_of_length_eq_zero hl
      exact ⟨v, w, run_app_nil w _ ty 22 i0 1 Try.underlying29 hi v _ _ hown cap, by simpa using hown, World.grownBy.rfl' _ _, .inl rfl⟩
    · cases e
  · have hcell : ∀ j u, (m.map (Value.int .u64))[j]? = some u → w.cell? (a.add j) = some u := by
      intro j u hj
      have hjl : j < m.length := by
        have := (List.getElem?_eq_some_iff.1 hj).1
        simpa using this
      rcases hr with h0 | ⟨b, off, e, _, hc⟩
      · omega
      · cases e
        rw [Go.WideShapes.add_plain, hc j (by omega)]
        rw [← hj]
        simp [List.getD, List.getElem?_eq_getElem hjl]
    obtain ⟨v', w', h1, h2, h3, _, h4⟩ := run_append_own_at (P := Try.prog) w B 29 ty 22 i0 (.int .u64 0) 1 8 Try.underlying29 hi hz0 hz1 hz2 rfl (by decide) v l.length _ hown a len cap (m.map (Value.int .u64)) (by simp [hl]) hcell (oneN m) (by unfold maxLen; omega) (by omega) hB
    refine ⟨v', w', h1, ?_, h3, h4⟩
    rw [← List.map_append] at h2
    show w'.ownsRow B 22 1 v' (l ++ m).length _
    rw [List.length_append, hl]; exact h2

theorem wpList_appN {ops : Array Oper} {rest : List Oper} {o : Oper} {a : Act} {w : World} {Q : Exit → Act → World → Prop} (s x : Operand)
    (ho : o.op = .call { callee := .builtin .append, args := #[s, x], argTypes := #[29, 29] }) (hw : Region.wanted o (yielded ops a.tmps) = true)
    (B : Nat) (v : Value) (l : List Int) (hs : a.eval s = v) (hown : OwnN w B v l) (y : Value) (m : List Int) (hx : a.eval x = y) (hy : Ints .u64 w y m) (h47 : (l.length + m.length) * 8 ≤ 140737488355328) (hB : B ≤ w.heap.size)
    (h : ∀ v' w', OwnN w' B v' (l ++ m) → w.grownBy w' v.ownBlock → (v'.ownBlock = v.ownBlock ∨ v'.ownBlock = some w.heap.size) → wpList Try.prog ops Q rest (a.put o.dst v') w') : wpList Try.prog ops Q (o :: rest) a w :=
  BigFrame.wpList_want hw fun _ hK => by
    obtain ⟨v', w', h1, h2, h3, h4⟩ := run_appN w B o.type v l hown y m hy h47 hB
    unfold Oper.wp execOp
    simp only [ho, resolve, invoke, builtin, Sem.run_bind, Sem.run_pure, Result.andThen_ok, List.map_toArray, List.map_cons, List.map_nil, hs, hx, h1]
    exact hK _ _ (h v' w' h2 h3 h4)

theorem info_ints1 : (Try.prog.info? 29).map (·.size) = some 1 := by kernel_rfl

set_option maxHeartbeats 4000000 in
theorem copyt_any (c : CpD) (v : Value) (l : List Int) (w : World) (hc : c.ok) (hI : NumsV w v l) (hl : l.length ≤ 1000000) :
    Calls Try.prog 44 #[.agg (flatP [c.cells, [v]])] w fun e w' => (∃ a k, e = .returned (.agg (flatP [c.cells, [.slice a l.length k]])) ∧ NumsV w' (.slice a l.length k) l ∧ New w.heap.size (.slice a l.length k)) ∧ Below w.heap.size w w' := by
  have HO := Lib.hid (tabOff hc v)
  have HC := Lib.hid hc
  obtain ⟨X, HX⟩ : ∃ X, Hid (flatP [c.cells, [v]] = X) := ⟨_, Lib.hid rfl⟩
  rw [HX.out]
  obtain ⟨Z, hZ⟩ : ∃ Z, flatP [zeC.cells, [nilS]] = Z := ⟨_, rfl⟩
  have hsz : Z.size = 34 := by rw [← hZ]; rfl
  obtain ⟨hz34, hst⟩ := zero_array (P := Try.prog) (t := 36) (n := 34) Z (by rw [← hZ]; kernel_rfl) hsz (by rw [← hZ]; kernel_rfl)
  clear hst hZ
  have HBA := Lib.hid (((Below.refl w.heap.size w).alloc (Nat.le_refl _) (.cells X 36)).alloc (by simp) (.cells Z 36))
  have HT : Hid (Blk ((w.alloc (.cells X 36)).alloc (.cells Z 36)) w.heap.size (flatP [c.cells, [v]])) := by show Blk _ _ _; rw [HX.out]; exact (Blk.new rfl).alloc _
  have HZ : Hid (Blk ((w.alloc (.cells X 36)).alloc (.cells Z 36)) (w.heap.size + 1) Z) := Blk.new (by simp)
  have HI := Lib.hid (hI.below HBA.out)
  have HR := Lib.hid hI.2
  obtain ⟨a, k, rfl, _⟩ := hI.shape
  clear hI hc
  go_enter Try.func44, Try.ntmps44
  go_wp2_with (first
    | ((with_reducible refine at_load (.tmp 3) ?_); refine wpList_load_1 29 (.tmp 3) rfl w.heap.size 33 (.slice a l.length k) (HT.out.cellAt (k := 1) rfl HO.out.2.1) rfl _ Try.underlying29 rfl rfl ?_)
    | ((with_reducible refine at_app _ _ ?_); refine wpList_appN _ _ rfl rfl (w.heap.size + 2) nilS [] rfl (OwnN.nil _ _) _ l rfl HI.out.1 (by simp; omega) (by simp) ?_; intro v2 w2 ho2 hg2 hat2; have HO2 := Lib.hid ho2; have HBG := Lib.hid (grown_belowM hg2); have HT2 := Lib.hid (HT.out.call HBG.out); have HZ2 := Lib.hid (HZ.out.call HBG.out); have HB2 := Lib.hid (HBA.out.trans (HBG.out.mono HBA.out.size)); rw [List.nil_append] at HO2; obtain ⟨a2, k2, e2, _⟩ := HO2.out.shape; subst e2; clear ho2 hg2 hat2)
    | ((with_reducible refine at_store (.tmp 6) ?_); refine wpList_store_part1 rfl 29 (.tmp 6) _ rfl w.heap.size [c.cells, [.slice a l.length k]] 1 (.slice a l.length k) (.slice a2 l.length k2) HT2.out rfl (by rw [HO.out.2.1]; rfl) rfl info_ints1 rfl rfl ?_; intro w3 U3 B3; have HU3 := Lib.hid U3; have HT3 := Lib.hid B3; have HZ3 := Lib.hid (U3.blk HZ2.out (by omega)); clear U3 B3)
    | ((with_reducible refine at_load (.tmp 1) ?_); have hY := (tabOff HC.out (.slice a2 l.length k2)).2.2; refine wpList_load_blk rfl 36 (.tmp 1) rfl w.heap.size rfl (flatP [c.cells, [.slice a2 l.length k2]]) _ HT3.out Try.underlying36 rfl (by rw [hY]; kernel_rfl) ?_)
    | ((with_reducible refine at_store (.tmp 2) ?_); refine wpList_store_blk rfl 36 (.tmp 2) _ rfl (w.heap.size + 1) (flatP [c.cells, [.slice a2 l.length k2]]) rfl rfl Z HZ3.out (by rw [hsz, hY]) (by rw [hY]; kernel_rfl) (fun v hv => tab_one v hv) ?_; intro w4 U4 B4; have HU4 := Lib.hid U4; have HZ4 := Lib.hid B4; clear U4 B4))
  have HN2 : Hid (NumsV w2 (.slice a2 l.length k2) l ∧ New (w.heap.size + 2) (.slice a2 l.length k2)) := ⟨⟨HO2.out.ints (by unfold maxLen; omega), HR.out⟩, own_new HO2.out⟩
  have hoff : ∀ g, g < w.heap.size + 2 → Off g (.slice a2 l.length k2) := fun g hg => HN2.out.2.off hg
  have hu : ∀ {x y : World} {g : Nat}, Upd g x y → x.grownBy y (some g) := fun {x y g} h => ⟨h.os, h.tape, h.output, by rw [h.size]; exact Nat.le_refl _, fun j _ hj => h.block j (fun e => hj (by rw [e]))⟩
  have hn4 : NumsV w4 (.slice a2 l.length k2) l := ⟨(HN2.out.1.1.grownOff (hu HU3.out) (fun g e => by cases e; exact hoff _ (by omega))).grownOff (hu HU4.out) (fun g e => by cases e; exact hoff _ (by omega)), HR.out⟩
  exact bodyPost_ret (res_cellB rfl rfl HZ4.out Try.underlying36 rfl (by rw [hY]; kernel_rfl)) rfl ⟨⟨a2, k2, rfl, hn4, fun z l' c' e h => Nat.le_trans (by omega) (HN2.out.2 z l' c' e h)⟩, HU4.out.below (HU3.out.below HB2.out (Nat.le_refl _)) (by omega)⟩
end

/-! BkN -/
section
set_option linter.unusedVariables false
set_option linter.unusedSimpArgs false
open Go.RowKit Go.Maps

set_option maxRecDepth 100000

theorem AllEl.split {α : Type} {El : (Value → Prop) → World → Array Value → α → Prop} {P : Value → Prop} {w : World} {Xs : List (Array Value)} {ds : List α} (h : AllEl El P w Xs ds) (k : Nat) : AllEl El P w (Xs.take k) (ds.take k) ∧ AllEl El P w (Xs.drop k) (ds.drop k) := by
  have hl := h.1
  have e : Xs.zip ds = (Xs.take k).zip (ds.take k) ++ (Xs.drop k).zip (ds.drop k) := by
    rw [← List.zip_append (by simp [hl]), List.take_append_drop, List.take_append_drop]
  exact ⟨⟨by simp [hl], fun p hp => h.2 p (by rw [e]; exact List.mem_append_left _ hp)⟩, ⟨by simp [hl], fun p hp => h.2 p (by rw [e]; exact List.mem_append_right _ hp)⟩⟩

/-- The row behind a slice of tables. -/
theorem tabs_row {Q : Value → Prop} {w : World} {a : Option Addr} {m cap : Nat} {ds : List (CpD × List Int)} (h : ElV (TabElP Q False) 34 w (.slice a m cap) ds) :
    ∃ Xs, AllEl (TabElP Q False) (fun _ => True) w Xs ds ∧ (ds.length = 0 ∨ ∃ b off, a = some ⟨b, off, none⟩ ∧ b < w.heap.size ∧ w.rangeAt b off (rowsL Xs)) := by
  obtain ⟨a', cap', e, hl, hr⟩ := h
  cases e
  rcases hr with h0 | ⟨b, off, rfl, hlt, Xs, h1, h2⟩
  · obtain rfl := List.eq_nil_of_length_eq_zero h0
    exact ⟨[], AllEl.nil _ _, .inl rfl⟩
  · exact ⟨Xs, h2, .inr ⟨b, off, rfl, hlt, h1⟩⟩

theorem run_slHi (a : Option Addr) (n cap k : Nat) (hk : k ≤ cap) (w : World) : (Instr.sliceAt 48 (.slice a n cap) none (some (.int .i64 k)) none).run Try.prog w = .ok (.slice a k cap) w := by
  have hs : (sizeOf 36).run Try.prog w = .ok 34 w := Try.sizeOf36 w
  have ht := Try.underlying48
  have h37 : Try.prog.underlying 48 = some (.slice (Try.prog.elem 48)) := by kernel_rfl
  refine (run_sliceAt_slice _ _ _ _ _ _ h37).trans ?_
  have h1 : (0 : Int) ≤ k ∧ (k : Int) ≤ cap := by omega
  simp [Instr.slice, run_underlying ht, Instr.sliceBounds, Instr.sliceBound, asIntOf, h1, hs, hk]
  intro _
  cases a <;> simp [Addr.add]

theorem run_slLo (a : Option Addr) (n cap k : Nat) (hk : k ≤ n) (w : World) : (Instr.sliceAt 48 (.slice a n cap) (some (.int .i64 k)) none none).run Try.prog w = .ok (.slice (if cap = k then a else a.map (·.add (k * 34))) (n - k) (cap - k)) w := by
  have hs : (sizeOf 36).run Try.prog w = .ok 34 w := Try.sizeOf36 w
  have ht := Try.underlying48
  have h37 : Try.prog.underlying 48 = some (.slice (Try.prog.elem 48)) := by kernel_rfl
  refine (run_sliceAt_slice _ _ _ _ _ _ h37).trans ?_
  have h1 : (0 : Int) ≤ k ∧ (k : Int) ≤ n := by omega
  simp [Instr.slice, run_underlying ht, Instr.sliceBounds, Instr.sliceBound, asIntOf, h1, hs, hk]

/-- A slicing is taken first. -/
theorem held_slice {P : Program} {ops : Array Oper} {Q : Exit → Act → World → Prop} {S : World → Prop} (i : Nat) {oi : Oper} {fuel : Nat} {listed : Array Bool} {a : Act} {w : World} (hi : ops[i]? = some oi)
    (hs : Region.noSelect ops = true) (hf : Region.free .any ops listed i = true) (hr : (Region.ready .any ops listed).contains i = true)
    (hQ : ∀ v c a w, Q (.panic c) (a.put oi.dst v) w → Q (.panic c) a w) (hw : Region.wanted oi (yielded ops a.tmps) = true) (t : TypeId) (x : Operand) (lo hi' mx : Option Operand) (ho : oi.op = .slice t x lo hi' mx)
    (xv : Value) (lv hv mv : Option Value) (hx : a.eval x = xv) (hl : lo.map a.eval = lv) (hh : hi'.map a.eval = hv) (hm : mx.map a.eval = mv) (v : Value) (hrun : ∀ u, (Instr.sliceAt t xv lv hv mv).run P u = .ok v u) (hS : S w)
    (h : wpAnyH P .any ops Q S fuel (listed.setIfInBounds i true) (a.put oi.dst v) w) : wpAnyH P .any ops Q S (fuel + 1) listed a w :=
  wpAnyH_take hi hs hf hr (hQ _) (.inl ⟨hw, fun u _ => by
    unfold execOp
    simp only [ho, hx, hl, hh, hm, Sem.run_bind, hrun, Result.andThen_ok, Sem.run_pure]⟩) hS h

/-- A table at its place. -/
def AddR (ds : List (CpD × List Int)) (c : CpD) (l : List Int) (ds' : List (CpD × List Int)) : Prop :=
  ∃ k, k ≤ ds.length ∧ (∀ j (hj : j < ds.length), j < k → ltC ds[j].1 c) ∧ (∀ hk : k < ds.length, ¬ ltC ds[k].1 c) ∧ ds' = ds.take k ++ (c, l) :: ds.drop k

theorem rowsL_split (Xs : List (Array Value)) (k : Nat) : rowsL Xs = rowsL (Xs.take k) ++ rowsL (Xs.drop k) := by rw [← rowsL_app, List.take_append_drop]

theorem tabs_cut {Q : Value → Prop} {w : World} {a : Option Addr} {cap k : Nat} {Xs : List (Array Value)} {ds : List (CpD × List Int)} (hA : AllEl (TabElP Q False) (fun _ => True) w Xs ds) (hk : k ≤ ds.length)
    (hr : ds.length = 0 ∨ ∃ b off, a = some ⟨b, off, none⟩ ∧ b < w.heap.size ∧ w.rangeAt b off (rowsL Xs)) (hc : ds.length ≤ cap) {la : Option Addr} (hla : (if cap = k then a else a.map (·.add (k * 34))) = la) :
    ((ds.take k).length = 0 ∨ ∃ b off, a = some ⟨b, off, none⟩ ∧ b < w.heap.size ∧ w.rangeAt b off (rowsL (Xs.take k))) ∧ ((ds.drop k).length = 0 ∨ ∃ b off, la = some ⟨b, off, none⟩ ∧ b < w.heap.size ∧ w.rangeAt b off (rowsL (Xs.drop k))) := by
  rcases hr with h0 | ⟨b, off, rfl, hb, hr⟩
  · exact ⟨.inl (by simp; omega), .inl (by simp; omega)⟩
  · have hsz : ∀ X ∈ Xs.take k, X.size = 34 := fun X hX => hA.sizes (tabOKP Q False) X (List.mem_of_mem_take hX)
    have hl : (rowsL (Xs.take k)).length = k * 34 := by rw [rowsL_len hsz, List.length_take, hA.1, Nat.min_eq_left hk]
    rw [rowsL_split Xs k] at hr
    refine ⟨.inr ⟨b, off, rfl, hb, fun j u hj => hr j u ?_⟩, ?_⟩
    · have := (List.getElem?_eq_some_iff.1 hj).1
      rw [List.getElem?_append_left this]; exact hj
    · by_cases hck : cap = k
      · exact .inl (by simp; omega)
      · rw [if_neg hck] at hla
        subst hla
        refine .inr ⟨b, off + k * 34, by simp [Go.WideShapes.add_plain], hb, fun j u hj => ?_⟩
        have := hr (k * 34 + j) u (by rw [List.getElem?_append_right (by omega), hl, Nat.add_sub_cancel_left]; exact hj)
        rwa [Nat.add_assoc]

theorem hS_at {w u : World} {a : Option Addr} {n : Nat} {Ys : List (Array Value)} (h : n = 0 ∨ ∃ b off, a = some ⟨b, off, none⟩ ∧ b < w.heap.size ∧ w.rangeAt b off (rowsL Ys)) (hb : Below w.heap.size w u) : n = 0 ∨ ∃ b off, a = some ⟨b, off, none⟩ ∧ u.rangeAt b off (rowsL Ys) := by
  rcases h with h | ⟨b, off, e, hlt, hr⟩
  · exact .inl h
  · exact .inr ⟨b, off, e, Below.rng hb hlt hr⟩

set_option maxHeartbeats 8000000 in
theorem addt_anyN (Q : Value → Prop) (v : Value) (ds : List (CpD × List Int)) (c : CpD) (tv : Value) (l : List Int) (w : World) (hN : ∀ v, New w.heap.size v → Q v) (h : TabsCN Q w v ds) (hc : c.ok) (hI : NumsV w tv l) (hm : ds.length ≤ 1000) (hl : l.length ≤ 1000000) :
    Calls Try.prog 29 #[v, .agg (flatP [c.cells, [tv]])] w fun e w' => (∃ v' ds', e = .returned v' ∧ (TabsCN Q w' v' ds' ∧ New w.heap.size v') ∧ AddR ds c l ds') ∧ Below w.heap.size w w' := by
  obtain ⟨hv, a, cap, rfl, hcap, _⟩ := h
  obtain ⟨Xs, hA, hrow⟩ := tabs_row hv
  have HV := Lib.hid (elv_zero hv)
  have HNN := Lib.hid hN
  have HA := Lib.hid hA
  have HRW := Lib.hid hrow
  have HC := Lib.hid hc
  have HO := Lib.hid (tabOff hc tv)
  have HI := Lib.hid hI
  have hi33 := infoCp hc
  have HCK := Lib.hid (fun (d : CpD) (u : World) (hd : d.ok) => cmpK_any d c u hd hc)
  obtain ⟨X, HX⟩ : ∃ X, Hid (flatP [c.cells, [tv]] = X) := ⟨_, Lib.hid rfl⟩
  rw [HX.out]
  have hX : X.size = 34 := by rw [← HX.out]; exact HO.out.2.2
  have HBA := Lib.hid ((Below.refl w.heap.size w).alloc (Nat.le_refl _) (.cells X 36))
  have HT : Hid (Blk (w.alloc (.cells X 36)) w.heap.size X) := Blk.new rfl
  have hTP : ∀ {u : World} {b : Nat}, Blk u b X → u.rangeAt b 0 c.cells := fun {u b} hb => by
    rw [← HX.out] at hb
    exact hb.part (k := 0) rfl
  have HTP : Hid (∀ (u : World) (b : Nat), Blk u b X → u.rangeAt b 0 c.cells) := fun u b hb => hTP hb
  clear hv hA hrow hc hI hTP hN
  go_enter Try.func29, Try.ntmps29
  go_wp2_with fail
  go_loopw [5] (fun i wr => ∃ k : Nat, k ≤ ds.length ∧ i = .int .i64 k ∧ Below w.heap.size w wr ∧ Blk wr w.heap.size X ∧ ∀ j (hj : j < ds.length), j < k → ltC ds[j].1 c) (fun i _ => ds.length - (intOf i).toNat)
  case atStart => exact ⟨0, Nat.zero_le _, rfl, HBA.out, HT.out, fun j _ hj => absurd hj (by omega)⟩
  case round =>
    obtain ⟨k, hk, rfl, hbel, hblk, hall⟩ := hrel
    have HBL := Lib.hid hbel
    have HBK := Lib.hid hblk
    have HAL := Lib.hid hall
    clear hbel hblk hall
    have hexit : ∃ q : Bool, (q = true → ∃ hk : k < ds.length, ltC ds[k].1 c) ∧ (q = false → ∀ hk : k < ds.length, ¬ ltC ds[k].1 c) := by
      by_cases hlt : k < ds.length
      · by_cases h2 : ltC ds[k].1 c
        · exact ⟨true, fun _ => ⟨hlt, h2⟩, fun h => by cases h⟩
        · exact ⟨false, (fun h => by cases h), fun _ _ => h2⟩
      · exact ⟨false, (fun h => by cases h), fun _ h => absurd h hlt⟩
    have HCOND : Hid (∃ q : Bool, (q = true → ∃ hk : k < ds.length, ltC ds[k].1 c) ∧ (q = false → ∀ hk : k < ds.length, ¬ ltC ds[k].1 c)) := hexit
    clear hexit
    by_cases hlt : k < ds.length
    · obtain ⟨b, off, x, n, y, rfl, _, hbl, hr, hck, _⟩ := (HV.out.below HBL.out).elem hlt
      have HR := Lib.hid (elem_cp hr)
      have HBLT := Lib.hid hbl
      have HK := Lib.hid (fun u => HCK.out ds[k].1 u hck)
      have hi2 : (Try.prog.info? 34).map (·.size) = some (ds[k].1.cells).length := by rw [CpD.len hck]; kernel_rfl
      have hi3 : (Try.prog.info? 34).map (·.size) = some c.cells.length := by simpa using hi33
      unfold cpX at HK
      obtain ⟨R, hR⟩ : ∃ R, Hid (cfC ds[k].1 c = R) := ⟨_, Lib.hid rfl⟩
      rw [hR.out] at HK
      have HLT : Hid (R < 0 ↔ ltC ds[k].1 c) := by show _ ↔ _; rw [← hR.out]; exact cfC_lt
      obtain ⟨Y, hY⟩ : ∃ Y, Hid (ds[k].1.cells = Y) := ⟨_, Lib.hid rfl⟩
      rw [hY.out] at HR HK hi2
      obtain ⟨C, hC⟩ : ∃ C, Hid (c.cells = C) := ⟨_, Lib.hid rfl⟩
      rw [hC.out] at HK hi3 HTP
      clear hr hbl hck
      go_wp2_with fail
      refine wp_region_fam2 (by kernel_rfl) (by kernel_rfl) ?_
      intro T F hT hF hG
      have C1 := Lib.hid (show ∀ u, (∃ t, u = F t) → u.rangeAt b (off + k * 34) Y by rintro _ ⟨t, rfl⟩; exact Below.rng (hF t) HBLT.out HR.out)
      have C2 := Lib.hid (show ∀ u, (∃ t, u = F t) → u.rangeAt w.heap.size 0 C by rintro _ ⟨t, rfl⟩; exact HTP.out _ _ (HBK.out.call (hF t)))
      repeat (first
        | ((with_reducible refine at_qload (.tmp 14) ?_); refine wpQuiet_load_midE 34 _ rfl b (off + k * 34) rfl Y C1.out Try.underlying34 rfl hi2 (by kernel_rfl) ?_; simp only [Act.put, List.setIfInBounds_toArray, List.set_cons_succ, List.set_cons_zero])
        | ((with_reducible refine at_qload (.tmp 16) ?_); refine wpQuiet_load_midE 34 _ rfl w.heap.size 0 rfl C C2.out Try.underlying34 rfl hi3 (by kernel_rfl) ?_; simp only [Act.put, List.setIfInBounds_toArray, List.set_cons_succ, List.set_cons_zero])
        | (go_big_quiet_step ((go_at_call 43; exact fam_call hF hG (Nat.le_refl _) (HK.out _)))))
      refine wpQuiet_nil ?_
      rintro _ ⟨t, rfl⟩
      have HF := Lib.hid (HBL.out.trans ((hF t).mono HBL.out.size))
      have HFB := Lib.hid (HBK.out.call (hF t))
      clear C1 C2 hF hG
      obtain ⟨u, hu⟩ : ∃ u, F t = u := ⟨_, rfl⟩
      rw [hu] at HF HFB
      rw [hu]
      clear hu hT
      clear t F T
      by_cases hneg : R < 0
      · go_wp2_with fail
        go_roundw
        case rel => exact ⟨k + 1, by omega, by go_num, HF.out, HFB.out, fun j hj hjk => by
          by_cases e : j = k
          · subst e; exact HLT.out.1 hneg
          · exact HAL.out j hj (by omega)⟩
        case measure => simp [intOf]; omega
      · have HNX : Hid (∀ hk : k < ds.length, ¬ ltC ds[k].1 c) := fun _ h => hneg (HLT.out.2 h)
        clear HLT HK HR HBLT hY hi2 HBL HBK
        go_wp2_with fail
        obtain ⟨la, hla⟩ : ∃ la : Option Addr, (if cap = k then (some ⟨b, off, none⟩) else Option.map (fun x : Addr => x.add (k * 34)) (some ⟨b, off, none⟩)) = la := ⟨_, rfl⟩
        have HCUT := Lib.hid (tabs_cut HA.out hk HRW.out hcap hla)
        have HHI := Lib.hid (fun u => run_slHi (some ⟨b, off, none⟩) ds.length cap k (by omega) u)
        have HLO := Lib.hid (fun u => run_slLo (some ⟨b, off, none⟩) ds.length cap k (by omega) u)
        rw [hla] at HLO
        clear hla
        have HD : Hid (Below w.heap.size w u.drew) := ⟨HF.out.os, HF.out.tape, HF.out.output, HF.out.size, HF.out.block⟩
        have HFBd : Hid (Blk u.drew w.heap.size X) := HFB.out.call ⟨rfl, rfl, rfl, Nat.le_refl _, fun _ _ => rfl⟩
        have hiX : (Try.prog.info? 36).map (·.size) = some X.toList.length := by rw [Array.length_toList, hX]; kernel_rfl
        have HCT := Lib.hid (fun z hz => copyt_any c tv l z HC.out hz hl)
        rw [HX.out] at HCT
        refine wp_region_held_drew (S := fun z => Blk z w.heap.size X) (by kernel_rfl) (HFBd.out) (fun _ => ?_)
        (try simp only [Act.put, List.setIfInBounds_toArray, List.set_cons_zero, List.set_cons_succ])
        refine wpAnyH_take (i := 0) (oi := ⟨some 23, _, _, _, _, _⟩) (v := .slice (some ⟨b, off, none⟩) ds.length cap) rfl (by kernel_rfl) (by kernel_rfl) (by kernel_rfl) (fun _ _ _ h => h) (Or.inl ⟨by rfl, fun wz hz => ?_⟩) HFBd.out ?_
        · clear hz; go_simp; first | done | with_reducible rfl | rfl
        (try simp only [Act.put, List.setIfInBounds_toArray, List.set_cons_zero, List.set_cons_succ])
        refine wpAnyH_take (i := 1) (oi := ⟨some 24, _, _, _, _, _⟩) (v := .int .i64 k) rfl (by kernel_rfl) (by kernel_rfl) (by kernel_rfl) (fun _ _ _ h => h) (Or.inl ⟨by rfl, fun wz hz => ?_⟩) HFBd.out ?_
        · clear hz; go_simp; first | done | with_reducible rfl | rfl
        (try simp only [Act.put, List.setIfInBounds_toArray, List.set_cons_zero, List.set_cons_succ])
        refine held_slice 2 (oi := ⟨some 25, _, _, _, _, _⟩) rfl (by kernel_rfl) (by kernel_rfl) (by kernel_rfl) (fun _ _ _ _ h => h) rfl 48 (.tmp 23) _ _ _ rfl (.slice (some ⟨b, off, none⟩) ds.length cap) none (some (.int .i64 k)) none rfl rfl rfl rfl (.slice (some ⟨b, off, none⟩) k cap) HHI.out HFBd.out ?_
        (try simp only [Act.put, List.setIfInBounds_toArray, List.set_cons_zero, List.set_cons_succ])
        refine wpAnyH_take (i := 8) (oi := ⟨some 31, _, _, _, _, _⟩) (v := .slice (some ⟨b, off, none⟩) ds.length cap) rfl (by kernel_rfl) (by kernel_rfl) (by kernel_rfl) (fun _ _ _ h => h) (Or.inl ⟨by rfl, fun wz hz => ?_⟩) HFBd.out ?_
        · clear hz; go_simp; first | done | with_reducible rfl | rfl
        (try simp only [Act.put, List.setIfInBounds_toArray, List.set_cons_zero, List.set_cons_succ])
        refine wpAnyH_take (i := 9) (oi := ⟨some 32, _, _, _, _, _⟩) (v := .int .i64 k) rfl (by kernel_rfl) (by kernel_rfl) (by kernel_rfl) (fun _ _ _ h => h) (Or.inl ⟨by rfl, fun wz hz => ?_⟩) HFBd.out ?_
        · clear hz; go_simp; first | done | with_reducible rfl | rfl
        (try simp only [Act.put, List.setIfInBounds_toArray, List.set_cons_zero, List.set_cons_succ])
        refine held_slice 10 (oi := ⟨some 33, _, _, _, _, _⟩) rfl (by kernel_rfl) (by kernel_rfl) (by kernel_rfl) (fun _ _ _ _ h => h) rfl 48 (.tmp 31) _ _ _ rfl (.slice (some ⟨b, off, none⟩) ds.length cap) (some (.int .i64 k)) none none rfl rfl rfl rfl (.slice la (ds.length - k) (cap - k)) HLO.out HFBd.out ?_
        (try simp only [Act.put, List.setIfInBounds_toArray, List.set_cons_zero, List.set_cons_succ])
        refine held_load (oi := ⟨some 27, _, _, _, _, _⟩) 4 rfl (by kernel_rfl) (by kernel_rfl) (by kernel_rfl) (fun _ _ _ _ h => h) rfl 36 (.tmp 3) rfl w.heap.size 0 rfl X.toList _ (fun u' hu => hu.range) Try.underlying36 rfl hiX HFBd.out ?_
        simp only [Array.toArray_toList]
        (try simp only [Act.put, List.setIfInBounds_toArray, List.set_cons_zero, List.set_cons_succ])
        refine wpAnyH_ready (rs := [3]) (by kernel_rfl) (by simp) ?_
        refine AllReadyH.cons rfl (fun K hK => ?_) AllReadyH.nil
        refine wp_appEls (tabOKP Q False) Try.underlying48 info_tab (by rfl) (by omega) (.const (.slice none 0 0)) (.tmp 25) rfl (w.heap.size + 1) nilS [] rfl (OwnEl.nil _ _) (some ⟨b, off, none⟩) k cap (ds.take k) (Xs.take k) rfl (by rw [List.length_take]; omega) (hS_at HCUT.out.1 HD.out) ((HA.out.split k).1.imp fun Y d hY => tabEl_off hY HD.out (fun n e => by cases e)) (by simp; omega) (by simp; unfold maxLen; omega) HFBd.out.lt ?_
        intro v3 w3 ho3 hg3 _
        rw [List.nil_append] at ho3
        have HO3 := Lib.hid ho3
        have HBG := Lib.hid (grown_belowM (show u.drew.grownBy w3 none from hg3))
        have HB3 := Lib.hid (HD.out.trans (HBG.out.mono HD.out.size))
        have HFB3 := Lib.hid (HFBd.out.call HBG.out)
        clear ho3 hg3
        refine hK.out _ _ HFB3.out (fun _ => ?_)
        clear hK K
        (try simp only [Act.put, List.setIfInBounds_toArray, List.set_cons_zero, List.set_cons_succ])
        refine wpAnyH_ready (rs := [5]) (by kernel_rfl) (by simp) ?_
        refine AllReadyH.cons rfl (fun K hK => ?_) AllReadyH.nil
        go_simp
        refine (HCT.out w3 (HI.out.below HB3.out)).mono ?_
        rintro e w5 ⟨⟨a5, k5, rfl, hn5, hw5⟩, hb5⟩
        have HN5 := Lib.hid hn5
        have HW5 := Lib.hid hw5
        have HB35 := Lib.hid hb5
        have HFB5 := Lib.hid (HFB3.out.call hb5)
        clear hn5 hw5 hb5
        refine hK.out _ _ HFB5.out (fun _ => ?_)
        clear hK K
        (try simp only [Act.put, List.setIfInBounds_toArray, List.set_cons_zero, List.set_cons_succ])
        obtain ⟨Y, hY⟩ : ∃ Y, Hid (flatP [c.cells, [.slice a5 l.length k5]] = Y) := ⟨_, Lib.hid rfl⟩
        rw [hY.out]
        have HYS : Hid (Y.size = 34) := by show _ = _; rw [← hY.out]; exact (tabOff HC.out _).2.2
        have HBE := Lib.hid (buildEl (P := Try.prog) (t := 48) (e := 36) (Z := flatP [zeC.cells, [nilS]]) (X := Y) (sz := 34) Try.underlying48 (fun w => by kernel_rfl) (by kernel_rfl) (by rfl) HYS.out (by omega) (by omega) w5)
        have HFB6 := Lib.hid (HFB5.out.alloc (.cells Y 36))
        refine wpAnyH_ready (rs := [6]) (by kernel_rfl) (by simp) ?_
        refine AllReadyH.cons rfl (fun K hK => ?_) AllReadyH.nil
        refine wp_buildSlice 48 1 _ rfl #[(0, .agg Y)] (by simp [Act.eval, Act.put]) _ HBE.out ?_
        refine hK.out _ _ HFB6.out (fun _ => ?_)
        clear hK K
        (try simp only [Act.put, List.setIfInBounds_toArray, List.set_cons_zero, List.set_cons_succ])
        have HB36 := Lib.hid (HB35.out.alloc HB35.out.size (.cells Y 36))
        have HB6 := Lib.hid (HB3.out.trans (HB36.out.mono HB3.out.size))
        have HO6 := Lib.hid (HO3.out.call (tabOKP _ _) HB36.out)
        have HA56 : Hid (Below w5.heap.size w5 (w5.alloc (.cells Y 36))) := (Below.refl _ _).alloc (Nat.le_refl _) _
        have HEL : Hid (TabElP Q False (OffB v3) (w5.alloc (.cells Y 36)) Y (c, l)) := ⟨HC.out, a5, l.length, k5, hY.out.symm, HN5.out.below HA56.out, HNN.out _ (HW5.out.mono HB3.out.size), (fun h => h.elim), fun g hg => HW5.out.off ((HO3.out.lt g hg).2)⟩
        refine wpAnyH_ready (rs := [7]) (by kernel_rfl) (by simp) ?_
        refine AllReadyH.cons rfl (fun K hK => ?_) AllReadyH.nil
        refine wp_appEl (tabOKP Q False) Try.underlying48 info_tab (by rfl) (by omega) (.tmp 26) (.tmp 29) rfl (w.heap.size + 1) v3 (ds.take k) rfl HO6.out w5.heap.size 1 Y (c, l) rfl HEL.out (Blk.new rfl).range (by simp; omega) (by simp; unfold maxLen; omega) HFB6.out.lt ?_
        intro v7 w7 ho7 hg7 _
        have HO7 := Lib.hid ho7
        have HB7 := Lib.hid (HB6.out.grown hg7 HB6.out.size (fun j hj => by have := (HO6.out.lt j hj).1; omega))
        have HFB7 := Lib.hid (HFB6.out.grown hg7 (fun e => by have h1 := (HO6.out.lt _ e.symm).1; omega))
        clear ho7 hg7
        refine hK.out _ _ HFB7.out (fun _ => ?_)
        clear hK K
        (try simp only [Act.put, List.setIfInBounds_toArray, List.set_cons_zero, List.set_cons_succ])
        refine wpAnyH_ready (rs := [11]) (by kernel_rfl) (by simp) ?_
        refine AllReadyH.cons rfl (fun K hK => ?_) AllReadyH.nil
        refine wp_appEls (tabOKP Q False) Try.underlying48 info_tab (by rfl) (by omega) (.tmp 30) (.tmp 33) rfl (w.heap.size + 1) v7 _ rfl HO7.out la (ds.length - k) (cap - k) (ds.drop k) (Xs.drop k) rfl (by simp) (hS_at HCUT.out.2 HB7.out) ((HA.out.split k).2.imp fun Y d hY => tabEl_off hY HB7.out (fun n e => by have := (HO7.out.lt n e).1; omega)) (by simp; omega) (by simp; unfold maxLen; omega) HFB7.out.lt ?_
        intro v8 w8 ho8 hg8 _
        have HO8 := Lib.hid ho8
        have HB8 := Lib.hid (HB7.out.grown hg8 HB7.out.size (fun j hj => by have := (HO7.out.lt j hj).1; omega))
        have HFB8 := Lib.hid (HFB7.out.grown hg8 (fun e => by have h1 := (HO7.out.lt _ e.symm).1; omega))
        clear ho8 hg8
        refine hK.out _ _ HFB8.out (fun _ => ?_)
        clear hK K
        (try simp only [Act.put, List.setIfInBounds_toArray, List.set_cons_zero, List.set_cons_succ])
        refine wpAnyH_ready (rs := [12]) (by kernel_rfl) (by simp) ?_
        refine AllReadyH.cons rfl (fun K hK => ?_) AllReadyH.nil
        go_simp
        refine hK.out _ _ (HFB8.out) (fun _ => ?_)
        clear hK K
        (try simp only [Act.put, List.setIfInBounds_toArray, List.set_cons_zero, List.set_cons_succ])
        refine wpAnyH_done (by kernel_rfl) ?_ _
        go_wp2_with fail
        go_ret
        refine ⟨⟨_, _, rfl, ⟨HO8.out.tabsCN, HO8.out.newT.mono (Nat.le_succ _)⟩, k, hk, HAL.out, HNX.out, by simp⟩, HB8.out⟩
    · have HNX : Hid (∀ hk : k < ds.length, ¬ ltC ds[k].1 c) := fun h => absurd h hlt
      go_wp2_with fail
      refine wp_region_fam2 (by kernel_rfl) (by kernel_rfl) ?_
      intro T F hT hF hG
      repeat (go_big_quiet_step (fail))
      refine wpQuiet_nil ?_
      rintro _ ⟨t, rfl⟩
      have HF := Lib.hid (HBL.out.trans ((hF t).mono HBL.out.size))
      have HFB := Lib.hid (HBK.out.call (hF t))
      clear hF hG
      obtain ⟨u, hu⟩ : ∃ u, F t = u := ⟨_, rfl⟩
      rw [hu] at HF HFB
      rw [hu]
      clear hu hT
      clear t F T
      clear HBL HBK
      go_wp2_with fail
      obtain ⟨la, hla⟩ : ∃ la : Option Addr, (if cap = k then a else Option.map (fun x : Addr => x.add (k * 34)) a) = la := ⟨_, rfl⟩
      have HCUT := Lib.hid (tabs_cut HA.out hk HRW.out hcap hla)
      have HHI := Lib.hid (fun u => run_slHi a ds.length cap k (by omega) u)
      have HLO := Lib.hid (fun u => run_slLo a ds.length cap k (by omega) u)
      rw [hla] at HLO
      clear hla
      have HD : Hid (Below w.heap.size w u.drew) := ⟨HF.out.os, HF.out.tape, HF.out.output, HF.out.size, HF.out.block⟩
      have HFBd : Hid (Blk u.drew w.heap.size X) := HFB.out.call ⟨rfl, rfl, rfl, Nat.le_refl _, fun _ _ => rfl⟩
      have hiX : (Try.prog.info? 36).map (·.size) = some X.toList.length := by rw [Array.length_toList, hX]; kernel_rfl
      have HCT := Lib.hid (fun z hz => copyt_any c tv l z HC.out hz hl)
      rw [HX.out] at HCT
      refine wp_region_held_drew (S := fun z => Blk z w.heap.size X) (by kernel_rfl) (HFBd.out) (fun _ => ?_)
      (try simp only [Act.put, List.setIfInBounds_toArray, List.set_cons_zero, List.set_cons_succ])
      refine wpAnyH_take (i := 0) (oi := ⟨some 23, _, _, _, _, _⟩) (v := .slice a ds.length cap) rfl (by kernel_rfl) (by kernel_rfl) (by kernel_rfl) (fun _ _ _ h => h) (Or.inl ⟨by rfl, fun wz hz => ?_⟩) HFBd.out ?_
      · clear hz; go_simp; first | done | with_reducible rfl | rfl
      (try simp only [Act.put, List.setIfInBounds_toArray, List.set_cons_zero, List.set_cons_succ])
      refine wpAnyH_take (i := 1) (oi := ⟨some 24, _, _, _, _, _⟩) (v := .int .i64 k) rfl (by kernel_rfl) (by kernel_rfl) (by kernel_rfl) (fun _ _ _ h => h) (Or.inl ⟨by rfl, fun wz hz => ?_⟩) HFBd.out ?_
      · clear hz; go_simp; first | done | with_reducible rfl | rfl
      (try simp only [Act.put, List.setIfInBounds_toArray, List.set_cons_zero, List.set_cons_succ])
      refine held_slice 2 (oi := ⟨some 25, _, _, _, _, _⟩) rfl (by kernel_rfl) (by kernel_rfl) (by kernel_rfl) (fun _ _ _ _ h => h) rfl 48 (.tmp 23) _ _ _ rfl (.slice a ds.length cap) none (some (.int .i64 k)) none rfl rfl rfl rfl (.slice a k cap) HHI.out HFBd.out ?_
      (try simp only [Act.put, List.setIfInBounds_toArray, List.set_cons_zero, List.set_cons_succ])
      refine wpAnyH_take (i := 8) (oi := ⟨some 31, _, _, _, _, _⟩) (v := .slice a ds.length cap) rfl (by kernel_rfl) (by kernel_rfl) (by kernel_rfl) (fun _ _ _ h => h) (Or.inl ⟨by rfl, fun wz hz => ?_⟩) HFBd.out ?_
      · clear hz; go_simp; first | done | with_reducible rfl | rfl
      (try simp only [Act.put, List.setIfInBounds_toArray, List.set_cons_zero, List.set_cons_succ])
      refine wpAnyH_take (i := 9) (oi := ⟨some 32, _, _, _, _, _⟩) (v := .int .i64 k) rfl (by kernel_rfl) (by kernel_rfl) (by kernel_rfl) (fun _ _ _ h => h) (Or.inl ⟨by rfl, fun wz hz => ?_⟩) HFBd.out ?_
      · clear hz; go_simp; first | done | with_reducible rfl | rfl
      (try simp only [Act.put, List.setIfInBounds_toArray, List.set_cons_zero, List.set_cons_succ])
      refine held_slice 10 (oi := ⟨some 33, _, _, _, _, _⟩) rfl (by kernel_rfl) (by kernel_rfl) (by kernel_rfl) (fun _ _ _ _ h => h) rfl 48 (.tmp 31) _ _ _ rfl (.slice a ds.length cap) (some (.int .i64 k)) none none rfl rfl rfl rfl (.slice la (ds.length - k) (cap - k)) HLO.out HFBd.out ?_
      (try simp only [Act.put, List.setIfInBounds_toArray, List.set_cons_zero, List.set_cons_succ])
      refine held_load (oi := ⟨some 27, _, _, _, _, _⟩) 4 rfl (by kernel_rfl) (by kernel_rfl) (by kernel_rfl) (fun _ _ _ _ h => h) rfl 36 (.tmp 3) rfl w.heap.size 0 rfl X.toList _ (fun u' hu => hu.range) Try.underlying36 rfl hiX HFBd.out ?_
      simp only [Array.toArray_toList]
      (try simp only [Act.put, List.setIfInBounds_toArray, List.set_cons_zero, List.set_cons_succ])
      refine wpAnyH_ready (rs := [3]) (by kernel_rfl) (by simp) ?_
      refine AllReadyH.cons rfl (fun K hK => ?_) AllReadyH.nil
      refine wp_appEls (tabOKP Q False) Try.underlying48 info_tab (by rfl) (by omega) (.const (.slice none 0 0)) (.tmp 25) rfl (w.heap.size + 1) nilS [] rfl (OwnEl.nil _ _) a k cap (ds.take k) (Xs.take k) rfl (by rw [List.length_take]; omega) (hS_at HCUT.out.1 HD.out) ((HA.out.split k).1.imp fun Y d hY => tabEl_off hY HD.out (fun n e => by cases e)) (by simp; omega) (by simp; unfold maxLen; omega) HFBd.out.lt ?_
      intro v3 w3 ho3 hg3 _
      rw [List.nil_append] at ho3
      have HO3 := Lib.hid ho3
      have HBG := Lib.hid (grown_belowM (show u.drew.grownBy w3 none from hg3))
      have HB3 := Lib.hid (HD.out.trans (HBG.out.mono HD.out.size))
      have HFB3 := Lib.hid (HFBd.out.call HBG.out)
      clear ho3 hg3
      refine hK.out _ _ HFB3.out (fun _ => ?_)
      clear hK K
      (try simp only [Act.put, List.setIfInBounds_toArray, List.set_cons_zero, List.set_cons_succ])
      refine wpAnyH_ready (rs := [5]) (by kernel_rfl) (by simp) ?_
      refine AllReadyH.cons rfl (fun K hK => ?_) AllReadyH.nil
      go_simp
      refine (HCT.out w3 (HI.out.below HB3.out)).mono ?_
      rintro e w5 ⟨⟨a5, k5, rfl, hn5, hw5⟩, hb5⟩
      have HN5 := Lib.hid hn5
      have HW5 := Lib.hid hw5
      have HB35 := Lib.hid hb5
      have HFB5 := Lib.hid (HFB3.out.call hb5)
      clear hn5 hw5 hb5
      refine hK.out _ _ HFB5.out (fun _ => ?_)
      clear hK K
      (try simp only [Act.put, List.setIfInBounds_toArray, List.set_cons_zero, List.set_cons_succ])
      obtain ⟨Y, hY⟩ : ∃ Y, Hid (flatP [c.cells, [.slice a5 l.length k5]] = Y) := ⟨_, Lib.hid rfl⟩
      rw [hY.out]
      have HYS : Hid (Y.size = 34) := by show _ = _; rw [← hY.out]; exact (tabOff HC.out _).2.2
      have HBE := Lib.hid (buildEl (P := Try.prog) (t := 48) (e := 36) (Z := flatP [zeC.cells, [nilS]]) (X := Y) (sz := 34) Try.underlying48 (fun w => by kernel_rfl) (by kernel_rfl) (by rfl) HYS.out (by omega) (by omega) w5)
      have HFB6 := Lib.hid (HFB5.out.alloc (.cells Y 36))
      refine wpAnyH_ready (rs := [6]) (by kernel_rfl) (by simp) ?_
      refine AllReadyH.cons rfl (fun K hK => ?_) AllReadyH.nil
      refine wp_buildSlice 48 1 _ rfl #[(0, .agg Y)] (by simp [Act.eval, Act.put]) _ HBE.out ?_
      refine hK.out _ _ HFB6.out (fun _ => ?_)
      clear hK K
      (try simp only [Act.put, List.setIfInBounds_toArray, List.set_cons_zero, List.set_cons_succ])
      have HB36 := Lib.hid (HB35.out.alloc HB35.out.size (.cells Y 36))
      have HB6 := Lib.hid (HB3.out.trans (HB36.out.mono HB3.out.size))
      have HO6 := Lib.hid (HO3.out.call (tabOKP _ _) HB36.out)
      have HA56 : Hid (Below w5.heap.size w5 (w5.alloc (.cells Y 36))) := (Below.refl _ _).alloc (Nat.le_refl _) _
      have HEL : Hid (TabElP Q False (OffB v3) (w5.alloc (.cells Y 36)) Y (c, l)) := ⟨HC.out, a5, l.length, k5, hY.out.symm, HN5.out.below HA56.out, HNN.out _ (HW5.out.mono HB3.out.size), (fun h => h.elim), fun g hg => HW5.out.off ((HO3.out.lt g hg).2)⟩
      refine wpAnyH_ready (rs := [7]) (by kernel_rfl) (by simp) ?_
      refine AllReadyH.cons rfl (fun K hK => ?_) AllReadyH.nil
      refine wp_appEl (tabOKP Q False) Try.underlying48 info_tab (by rfl) (by omega) (.tmp 26) (.tmp 29) rfl (w.heap.size + 1) v3 (ds.take k) rfl HO6.out w5.heap.size 1 Y (c, l) rfl HEL.out (Blk.new rfl).range (by simp; omega) (by simp; unfold maxLen; omega) HFB6.out.lt ?_
      intro v7 w7 ho7 hg7 _
      have HO7 := Lib.hid ho7
      have HB7 := Lib.hid (HB6.out.grown hg7 HB6.out.size (fun j hj => by have := (HO6.out.lt j hj).1; omega))
      have HFB7 := Lib.hid (HFB6.out.grown hg7 (fun e => by have h1 := (HO6.out.lt _ e.symm).1; omega))
      clear ho7 hg7
      refine hK.out _ _ HFB7.out (fun _ => ?_)
      clear hK K
      (try simp only [Act.put, List.setIfInBounds_toArray, List.set_cons_zero, List.set_cons_succ])
      refine wpAnyH_ready (rs := [11]) (by kernel_rfl) (by simp) ?_
      refine AllReadyH.cons rfl (fun K hK => ?_) AllReadyH.nil
      refine wp_appEls (tabOKP Q False) Try.underlying48 info_tab (by rfl) (by omega) (.tmp 30) (.tmp 33) rfl (w.heap.size + 1) v7 _ rfl HO7.out la (ds.length - k) (cap - k) (ds.drop k) (Xs.drop k) rfl (by simp) (hS_at HCUT.out.2 HB7.out) ((HA.out.split k).2.imp fun Y d hY => tabEl_off hY HB7.out (fun n e => by have := (HO7.out.lt n e).1; omega)) (by simp; omega) (by simp; unfold maxLen; omega) HFB7.out.lt ?_
      intro v8 w8 ho8 hg8 _
      have HO8 := Lib.hid ho8
      have HB8 := Lib.hid (HB7.out.grown hg8 HB7.out.size (fun j hj => by have := (HO7.out.lt j hj).1; omega))
      have HFB8 := Lib.hid (HFB7.out.grown hg8 (fun e => by have h1 := (HO7.out.lt _ e.symm).1; omega))
      clear ho8 hg8
      refine hK.out _ _ HFB8.out (fun _ => ?_)
      clear hK K
      (try simp only [Act.put, List.setIfInBounds_toArray, List.set_cons_zero, List.set_cons_succ])
      refine wpAnyH_ready (rs := [12]) (by kernel_rfl) (by simp) ?_
      refine AllReadyH.cons rfl (fun K hK => ?_) AllReadyH.nil
      go_simp
      refine hK.out _ _ (HFB8.out) (fun _ => ?_)
      clear hK K
      (try simp only [Act.put, List.setIfInBounds_toArray, List.set_cons_zero, List.set_cons_succ])
      refine wpAnyH_done (by kernel_rfl) ?_ _
      go_wp2_with fail
      go_ret
      refine ⟨⟨_, _, rfl, ⟨HO8.out.tabsCN, HO8.out.newT.mono (Nat.le_succ _)⟩, k, hk, HAL.out, HNX.out, by simp⟩, HB8.out⟩

theorem TabsC.n0 {w : World} {v : Value} {ds : List (CpD × List Int)} (h : TabsC w v ds) : TabsCN (New 0) w v ds := h

theorem TabsCN.c {Q : Value → Prop} {w : World} {v : Value} {ds : List (CpD × List Int)} (h : TabsCN Q w v ds) : TabsC w v ds := ⟨elv_zero h.1, h.2⟩

theorem addt_any (v : Value) (ds : List (CpD × List Int)) (c : CpD) (tv : Value) (l : List Int) (w : World) (h : TabsC w v ds) (hc : c.ok) (hI : NumsV w tv l) (hm : ds.length ≤ 1000) (hl : l.length ≤ 1000000) :
    Calls Try.prog 29 #[v, .agg (flatP [c.cells, [tv]])] w fun e w' => (∃ v' ds', e = .returned v' ∧ TabsC w' v' ds' ∧ AddR ds c l ds') ∧ Below w.heap.size w w' := by
  refine (addt_anyN (New 0) v ds c tv l w (fun _ _ _ _ _ _ _ => Nat.zero_le _) h.n0 hc hI hm hl).mono ?_
  rintro e w' ⟨⟨v', ds', rfl, ⟨h1, _⟩, h2⟩, h3⟩
  exact ⟨⟨v', ds', rfl, h1.c, h2⟩, h3⟩
end

/-! BkO -/
section
set_option linter.unusedVariables false
set_option linter.unusedSimpArgs false
open Go.RowKit Go.Maps

set_option maxRecDepth 100000

def rrE (n lim : Int) (ds : List (CpD × List Int)) (c : CpD) (l : List Int) : Int :=
  if vtE n l ≠ 0 then vtE n l else if c ∈ ds.map Prod.fst then 9 else if lim ≤ (ds.length : Int) then 11 else 0

/-- What the reference's Register hands back. -/
def RRegR (n lim : Int) (ds : List (CpD × List Int)) (c : CpD) (l : List Int) (w : World) (e : Ending) (w' : World) : Prop :=
  ∃ v' ds', e = .returned (.tuple #[v', .int .i64 (rrE n lim ds c l)]) ∧ TabsC w' v' ds' ∧ Below w.heap.size w w' ∧ ((rrE n lim ds c l ≠ 0 ∧ ds' = ds) ∨ (rrE n lim ds c l = 0 ∧ AddR ds c l ds'))

def RRegN (Q : Value → Prop) (v : Value) (n lim : Int) (ds : List (CpD × List Int)) (c : CpD) (l : List Int) (w : World) (e : Ending) (w' : World) : Prop :=
  ∃ v' ds', e = .returned (.tuple #[v', .int .i64 (rrE n lim ds c l)]) ∧ (TabsCN Q w' v' ds' ∧ (v' = v ∨ New w.heap.size v')) ∧ Below w.heap.size w w' ∧ ((rrE n lim ds c l ≠ 0 ∧ ds' = ds) ∨ (rrE n lim ds c l = 0 ∧ AddR ds c l ds'))

theorem find_neg {ds : List (CpD × List Int)} {c : CpD} {i : Int} (h : FindR ds c i) (hi : i < 0) : c ∉ ds.map Prod.fst := by
  rcases h with ⟨_, h⟩ | ⟨k, hk, rfl, _⟩
  · intro hm
    obtain ⟨d, hd, e⟩ := List.mem_map.1 hm
    exact h d hd e
  · omega

theorem find_pos {ds : List (CpD × List Int)} {c : CpD} {i : Int} (h : FindR ds c i) (hi : 0 ≤ i) : c ∈ ds.map Prod.fst := by
  rcases h with ⟨rfl, _⟩ | ⟨k, hk, rfl, e⟩
  · omega
  · exact List.mem_map.2 ⟨ds[k], List.getElem_mem hk, e⟩

set_option maxHeartbeats 8000000 in
theorem rreg_anyN (Q : Value → Prop) (v : Value) (ds : List (CpD × List Int)) (c : CpD) (tv : Value) (l : List Int) (n lim : Int) (w : World) (hN : ∀ v, New w.heap.size v → Q v) (h : TabsCN Q w v ds) (hc : c.ok) (hI : NumsV w tv l) (hm : ds.length ≤ 1000) (hl : l.length ≤ 1000000) :
    Calls Try.prog 16 #[v, .agg (flatP [c.cells, [tv]]), .int .i64 n, .int .i64 lim] w (RRegN Q v n lim ds c l w) := by
  have HV := Lib.hid h
  have HNN := Lib.hid hN
  have HI := Lib.hid hI
  have HVT := Lib.hid (fun u (hu : NumsV u tv l) => rvtab_any c tv l n u hc hu)
  have HFT := Lib.hid (fun u (hu : TabsV u v ds) => findt_any v ds c u hu hc (by omega))
  have HAT := Lib.hid (fun u (hn : ∀ v, New u.heap.size v → Q v) (hu : TabsCN Q u v ds) (hi : NumsV u tv l) => addt_anyN Q v ds c tv l u hn hu hc hi hm hl)
  have HO := Lib.hid (tabOff hc tv)
  obtain ⟨a, cap, rfl, _, _⟩ := h.2
  obtain ⟨X, HX⟩ : ∃ X, Hid (flatP [c.cells, [tv]] = X) := ⟨_, Lib.hid rfl⟩
  rw [HX.out] at HVT HAT ⊢
  have hX : X.size = 34 := by rw [← HX.out]; exact HO.out.2.2
  have hi : (Try.prog.info? 36).map (·.size) = some X.size := by rw [hX]; kernel_rfl
  have HBA := Lib.hid ((Below.refl w.heap.size w).alloc (Nat.le_refl _) (.cells X 36))
  have HT : Hid (Blk (w.alloc (.cells X 36)) w.heap.size X) := Blk.new rfl
  have HTP : Hid (∀ (u : World), Blk u w.heap.size X → u.rangeAt w.heap.size 0 c.cells) := fun u hb => by
    rw [← HX.out] at hb
    exact hb.part (k := 0) rfl
  have hi3 : (Try.prog.info? 34).map (·.size) = some c.cells.length := by rw [CpD.len hc]; kernel_rfl
  unfold cpX at HFT
  obtain ⟨C, hC⟩ : ∃ C, Hid (c.cells = C) := ⟨_, Lib.hid rfl⟩
  rw [hC.out] at HFT HTP hi3
  obtain ⟨ve, hve⟩ : ∃ ve, Hid (vtE n l = ve) := ⟨_, Lib.hid rfl⟩
  rw [hve.out] at HVT
  clear h hc hI hN
  by_cases h0 : ve = 0
  case neg =>
    have hq : (ve != 0) = true := by simpa using h0
    have HE : Hid (rrE n lim ds c l = ve) := by show _ = _; unfold rrE; rw [hve.out, if_pos h0]
    go_enter Try.func16, Try.ntmps16
    go_wp2_with (first
      | ((with_reducible refine at_load (.tmp 5) ?_); refine wpList_load_blk rfl 36 (.tmp 5) rfl w.heap.size rfl X _ HT.out Try.underlying36 rfl hi ?_)
      | (go_at_call 6; refine (HVT.out _ (HI.out.below HBA.out)).mono ?_; rintro e w1 ⟨rfl, hb1⟩; have HB1 := Lib.hid (HBA.out.trans (hb1.mono HBA.out.size)); clear hb1))
    go_ret2
    exact ⟨_, ds, by rw [HE.out]; rfl, ⟨HV.out.below HB1.out, .inl rfl⟩, HB1.out, .inl ⟨by rw [HE.out]; exact h0, rfl⟩⟩
  subst h0
  by_cases hk : c ∈ ds.map Prod.fst
  · have HE : Hid (rrE n lim ds c l = 9) := by show _ = _; unfold rrE; rw [hve.out, if_neg (by simp), if_pos hk]
    go_enter Try.func16, Try.ntmps16
    go_wp2_with (first
      | ((with_reducible refine at_load (.tmp 5) ?_); refine wpList_load_blk rfl 36 (.tmp 5) rfl w.heap.size rfl X _ HT2.out Try.underlying36 rfl hi ?_)
      | ((with_reducible refine at_load (.tmp 5) ?_); refine wpList_load_blk rfl 36 (.tmp 5) rfl w.heap.size rfl X _ HT.out Try.underlying36 rfl hi ?_)
      | (go_at_call 6; refine (HVT.out _ (HI.out.below HBA.out)).mono ?_; rintro e w1 ⟨rfl, hb1⟩; have HB1 := Lib.hid (HBA.out.trans (hb1.mono HBA.out.size)); have HT1 := Lib.hid (HT.out.call hb1); clear hb1)
      | ((with_reducible refine at_load (.tmp 19) ?_); refine wpList_load_rng 34 (.tmp 19) rfl w.heap.size 0 C (HTP.out _ HT1.out) rfl _ Try.underlying34 rfl hi3 rfl ?_)
      | (go_at_call 28; refine (HFT.out _ (elv_zero (HV.out.below HB1.out).1)).mono ?_; rintro e w2 ⟨⟨fi, rfl, hfi⟩, hb2⟩; have hpos : 0 ≤ fi := (by rcases Int.lt_or_le fi 0 with h | h; exact absurd hk (find_neg hfi h); exact h); have HB2 := Lib.hid (HB1.out.trans (hb2.mono HB1.out.size)); have HT2 := Lib.hid (HT1.out.call hb2); clear hb2 hfi))
    go_ret2
    exact ⟨_, ds, by rw [HE.out]; rfl, ⟨HV.out.below HB2.out, .inl rfl⟩, HB2.out, .inl ⟨by rw [HE.out]; decide, rfl⟩⟩
  by_cases hfull : lim ≤ (ds.length : Int)
  · have HE : Hid (rrE n lim ds c l = 11) := by show _ = _; unfold rrE; rw [hve.out, if_neg (by simp), if_neg hk, if_pos hfull]
    go_enter Try.func16, Try.ntmps16
    go_wp2_with (first
      | ((with_reducible refine at_load (.tmp 5) ?_); refine wpList_load_blk rfl 36 (.tmp 5) rfl w.heap.size rfl X _ HT2.out Try.underlying36 rfl hi ?_)
      | ((with_reducible refine at_load (.tmp 5) ?_); refine wpList_load_blk rfl 36 (.tmp 5) rfl w.heap.size rfl X _ HT.out Try.underlying36 rfl hi ?_)
      | (go_at_call 6; refine (HVT.out _ (HI.out.below HBA.out)).mono ?_; rintro e w1 ⟨rfl, hb1⟩; have HB1 := Lib.hid (HBA.out.trans (hb1.mono HBA.out.size)); have HT1 := Lib.hid (HT.out.call hb1); clear hb1)
      | ((with_reducible refine at_load (.tmp 19) ?_); refine wpList_load_rng 34 (.tmp 19) rfl w.heap.size 0 C (HTP.out _ HT1.out) rfl _ Try.underlying34 rfl hi3 rfl ?_)
      | (go_at_call 28; refine (HFT.out _ (elv_zero (HV.out.below HB1.out).1)).mono ?_; rintro e w2 ⟨⟨fi, rfl, hfi⟩, hb2⟩; have hneg : fi = -1 := (by rcases hfi with ⟨h, _⟩ | ⟨k, hk', e, e2⟩; exact h; exact absurd (List.mem_map.2 ⟨ds[k], List.getElem_mem hk', e2⟩) hk); subst hneg; have HB2 := Lib.hid (HB1.out.trans (hb2.mono HB1.out.size)); have HT2 := Lib.hid (HT1.out.call hb2); clear hb2 hfi))
    go_ret2
    exact ⟨_, ds, by rw [HE.out]; rfl, ⟨HV.out.below HB2.out, .inl rfl⟩, HB2.out, .inl ⟨by rw [HE.out]; decide, rfl⟩⟩
  · have HE : Hid (rrE n lim ds c l = 0) := by show _ = _; unfold rrE; rw [hve.out, if_neg (by simp), if_neg hk, if_neg hfull]
    go_enter Try.func16, Try.ntmps16
    go_wp2_with (first
      | ((with_reducible refine at_load (.tmp 5) ?_); refine wpList_load_blk rfl 36 (.tmp 5) rfl w.heap.size rfl X _ HT2.out Try.underlying36 rfl hi ?_)
      | ((with_reducible refine at_load (.tmp 5) ?_); refine wpList_load_blk rfl 36 (.tmp 5) rfl w.heap.size rfl X _ HT.out Try.underlying36 rfl hi ?_)
      | (go_at_call 6; refine (HVT.out _ (HI.out.below HBA.out)).mono ?_; rintro e w1 ⟨rfl, hb1⟩; have HB1 := Lib.hid (HBA.out.trans (hb1.mono HBA.out.size)); have HT1 := Lib.hid (HT.out.call hb1); clear hb1)
      | ((with_reducible refine at_load (.tmp 19) ?_); refine wpList_load_rng 34 (.tmp 19) rfl w.heap.size 0 C (HTP.out _ HT1.out) rfl _ Try.underlying34 rfl hi3 rfl ?_)
      | (go_at_call 28; refine (HFT.out _ (elv_zero (HV.out.below HB1.out).1)).mono ?_; rintro e w2 ⟨⟨fi, rfl, hfi⟩, hb2⟩; have hneg : fi = -1 := (by rcases hfi with ⟨h, _⟩ | ⟨k, hk', e, e2⟩; exact h; exact absurd (List.mem_map.2 ⟨ds[k], List.getElem_mem hk', e2⟩) hk); subst hneg; have HB2 := Lib.hid (HB1.out.trans (hb2.mono HB1.out.size)); have HT2 := Lib.hid (HT1.out.call hb2); clear hb2 hfi)
      | (go_at_call 29; refine (HAT.out _ (fun z hz => HNN.out z (hz.mono HB2.out.size)) (HV.out.below HB2.out) (HI.out.below HB2.out)).mono ?_; rintro e w3 ⟨⟨v3, ds3, rfl, ⟨hv3, hn3⟩, ha3⟩, hb3⟩; have HV3 := Lib.hid hv3; have HN3 := Lib.hid (hn3.mono HB2.out.size); have HA3 := Lib.hid ha3; have HB3 := Lib.hid (HB2.out.trans (hb3.mono HB2.out.size)); clear hv3 hn3 ha3 hb3))
    go_ret2
    exact ⟨_, ds3, by rw [HE.out]; rfl, ⟨HV3.out, .inr HN3.out⟩, HB3.out, .inr ⟨HE.out, HA3.out⟩⟩

theorem rreg_any (v : Value) (ds : List (CpD × List Int)) (c : CpD) (tv : Value) (l : List Int) (n lim : Int) (w : World) (h : TabsC w v ds) (hc : c.ok) (hI : NumsV w tv l) (hm : ds.length ≤ 1000) (hl : l.length ≤ 1000000) :
    Calls Try.prog 16 #[v, .agg (flatP [c.cells, [tv]]), .int .i64 n, .int .i64 lim] w (RRegR n lim ds c l w) := by
  refine (rreg_anyN (New 0) v ds c tv l n lim w (fun _ _ _ _ _ _ _ => Nat.zero_le _) h.n0 hc hI hm hl).mono ?_
  rintro e w' ⟨v', ds', rfl, ⟨h1, _⟩, h2, h3⟩
  exact ⟨v', ds', rfl, h1.c, h2, h3⟩
end

/-! BkP -/
section
set_option linter.unusedVariables false
set_option linter.unusedSimpArgs false
open Go.RowKit Go.Maps

set_option maxRecDepth 100000

theorem wpList_deleteC {ops : Array Oper} {rest : List Oper} {o : Oper} {a : Act} {w : World} {Q : Exit → Act → World → Prop} (hg : o.guard = none) (m x : Operand) (t e : TypeId) (hop : o.op = Op.call { callee := Callee.builtin Builtin.delete, args := #[m, x], argTypes := #[t, 34] })
    (ht : Try.prog.underlying t = some (.map 34 e)) (b r cnt : Nat) (L U : Ents) (c : CpD) (hm : a.eval m = .map (some b)) (hx : a.eval x = .agg c.cells.toArray) (hc : c.ok) (h : RangeIs w b r L U cnt) (hn : c ∉ U.map Prod.fst)
    (hK : ∀ w' cnt', RangeIs w' b r (L.filter fun p => decide (p.1 ≠ c)) U cnt' → cnt' ≤ cnt → w.grownBy w' (some b) → wpList Try.prog ops Q rest (a.put o.dst (.tuple #[])) w') :
    wpList Try.prog ops Q (o :: rest) a w := by
  refine wpList_plain hg fun K' hK' => ?_
  obtain ⟨w', cnt', hrun, r1, r2, r3⟩ := h.drop hc hn ht o.type
  simp only [cpX] at hrun
  unfold Oper.wp
  simp [execOp, hop, resolve, invoke, builtin, hm, hx, hrun, Result.andThen]
  exact hK' _ _ (hK w' cnt' r1 r2 r3)

theorem at_deleteC {P : Program} {ops : Array Oper} {Q : Exit → Act → World → Prop} {dst : Option Tmp} (m x : Operand) {tt : Array TypeId} {ty' : TypeId} {pos : String} {aft : Array Edge} {g : Option (Nat × Bool)} {rest : List Oper} {a : Act} {w : World}
    (h : wpList P ops Q (⟨dst, .call { callee := .builtin .delete, args := #[m, x], argTypes := tt }, ty', pos, aft, g⟩ :: rest) a w) : wpList P ops Q (⟨dst, .call { callee := .builtin .delete, args := #[m, x], argTypes := tt }, ty', pos, aft, g⟩ :: rest) a w := h

def keepE (ep : Int) (p : CpD × Value) : Bool := decide (ep ≤ p.1.n)

def DelRel (w : World) (mb r : Nat) (L : Ents) (ep : Int) (wr : World) : Prop :=
  ∃ L' D U cnt, RangeIs wr mb r L' U cnt ∧ L.Perm (D ++ U) ∧ L'.Perm (D.filter (keepE ep) ++ U) ∧ w.grownBy wr (some mb)

theorem filter_ne_self {D : Ents} {c : CpD} (h : c ∉ D.map Prod.fst) : D.filter (fun p => decide (p.1 ≠ c)) = D := by
  rw [List.filter_eq_self]
  intro p hp
  rw [decide_eq_true_iff]
  exact fun e => h (List.mem_map.2 ⟨p, hp, e⟩)

theorem del_step {L L' D U U' : Ents} {c : CpD} {v : Value} {ep : Int} (hL : EntsOK L) (h1 : L.Perm (D ++ U)) (h2 : L'.Perm (D.filter (keepE ep) ++ U)) (hU : U.Perm ((c, v) :: U')) :
    L.Perm ((D ++ [(c, v)]) ++ U') ∧ (ep ≤ c.n → L'.Perm ((D ++ [(c, v)]).filter (keepE ep) ++ U')) ∧ (c.n < ep → (L'.filter fun p => decide (p.1 ≠ c)).Perm ((D ++ [(c, v)]).filter (keepE ep) ++ U')) := by
  have h3 : L.Perm (D ++ (c, v) :: U') := h1.trans (List.Perm.append_left _ hU)
  have hnd := (hL.perm h3).nodup
  rw [List.map_append, List.map_cons, List.nodup_append] at hnd
  obtain ⟨n1, n2, n3⟩ := hnd
  rw [List.nodup_cons] at n2
  refine ⟨by simpa using h3, fun hk => ?_, fun hk => ?_⟩
  · have : keepE ep (c, v) = true := by simp [keepE, hk]
    rw [List.filter_append, List.filter_cons_of_pos this, List.filter_nil, List.append_assoc]
    exact h2.trans (List.Perm.append_left _ hU)
  · have : ¬ keepE ep (c, v) = true := by simp [keepE]; omega
    rw [List.filter_append, List.filter_cons_of_neg this, List.filter_nil, List.append_nil]
    have h4 := (h2.trans (List.Perm.append_left _ hU)).filter (fun p => decide (p.1 ≠ c))
    have e1 : (D.filter (keepE ep)).filter (fun p => decide (p.1 ≠ c)) = D.filter (keepE ep) := filter_ne_self fun hm => by
      obtain ⟨p, hp, e⟩ := List.mem_map.1 hm
      exact n3 p.1 (List.mem_map.2 ⟨p, (List.mem_filter.1 hp).1, rfl⟩) c (by simp) e
    have e2 : U'.filter (fun p => decide (p.1 ≠ c)) = U' := filter_ne_self n2.1
    rw [List.filter_append, List.filter_cons_of_neg (by simp), e1, e2] at h4
    exact h4
end

/-! BkQ -/
section
set_option linter.unusedVariables false
set_option linter.unusedSimpArgs false
open Go.RowKit Go.Maps

set_option maxRecDepth 100000

def dropE (ep : Int) (E : List TeD) : List TeD := E.filter fun e => decide (ep ≤ e.c.n)

theorem dropE_ent (ep : Int) (E : List TeD) : (E.map TeD.ent).filter (keepE ep) = (dropE ep E).map TeD.ent := by
  unfold dropE
  rw [List.filter_map]
  rfl

/-- What Drop leaves. -/
def DropR (b mb : Nat) (n lim : Int) (E : List TeD) (ep : Int) (w : World) (e : Ending) (w' : World) : Prop :=
  e = .returned (.int .i64 ((E.length : Int) - (dropE ep E).length)) ∧ BookIs w' b mb n lim (dropE ep E) ∧ w.grownBy w' (some mb)
end

/-! BkR -/
section
set_option linter.unusedVariables false
set_option linter.unusedSimpArgs false
open Go.RowKit Go.Maps

set_option maxRecDepth 100000

theorem build_tb1 {c : CpD} (hc : c.ok) (u : World) : (Instr.build 36 #[(0, .agg c.cells.toArray)]).run Try.prog u = .ok (.agg (flatP [c.cells, [nilS]])) u := by
  have hl := CpD.len hc
  refine build_struct (zero := flatP [zeC.cells, [nilS]]) (fun w => by kernel_rfl) Try.underlying36 (places := #[(0, 33), (33, 1)]) (fun w => by kernel_rfl) ?_ u
  show Instr.fill _ (flatP [zeC.cells, [nilS]]) [(0, .agg c.cells.toArray)] = _
  rw [fill_part 0 zeC.cells c.cells rfl rfl (by rw [hl]; rfl) rfl (by rw [hl]; rfl)]
  rfl

theorem ints_one {w : World} {x : Int} {t : TypeId} : Ints .u64 (w.alloc (.cells #[.int .u64 x] t)) (.slice (some ⟨w.heap.size, 0, none⟩) 1 1) [x] :=
  ⟨_, 1, 1, rfl, rfl, by unfold maxLen; omega, .inr ⟨w.heap.size, 0, rfl, (Blk.new (cs := #[.int .u64 x]) (t := t) rfl).lt, fun i hi => by
    have h := (Blk.new (n := w.heap.size) (w := w) (cs := #[.int .u64 x]) (t := t) rfl).cell i
    rw [Nat.zero_add, h]
    obtain rfl : i = 0 := by omega
    rfl⟩⟩

/-- One cell is stored, carried out in a region that draws its order. -/
theorem wp_store_cell {P : Program} {op : Oper} {a : Act} {w : World} {K : Act → World → Prop} {Q : Exit → Act → World → Prop} (ty : TypeId) (x y : Operand) (ho : op.op = .store ty x y)
    (b o : Nat) (v old : Value) (hx : a.eval x = .pointer (some ⟨b, o, none⟩)) (hy : a.eval y = v) (hc : w.cell? ⟨b, o, none⟩ = some old) (hf : w.frozen? ⟨b, o, none⟩ = false) (hi : (P.info? ty).map (·.size) = some 1) (hv : v.cells = #[v]) (h1 : v.oneCell' = true)
    (h : K (a.put op.dst undef) (w.setCell ⟨b, o, none⟩ v)) : op.wp P a w K Q := by
  have q1 : ∀ j, j < [v].length → (w.cell? ⟨b, o + 0 + j, none⟩).isSome = true := fun j hj => by
    have h0 : j = 0 := by simp at hj; exact hj
    rw [h0]; simp [hc]
  have q2 : ∀ j, j < [v].length → w.frozen? ⟨b, o + 0 + j, none⟩ = false := fun j hj => by
    have h0 : j = 0 := by simp at hj; exact hj
    rw [h0]; simpa using hf
  have hr := run_storeCells_cells (P := P) b o [v] 0 w q1 q2 (fun z hz => by rw [List.mem_singleton.1 hz]; exact h1)
  unfold Oper.wp execOp
  cases hq : P.info? ty with
  | none => simp [hq] at hi
  | some i =>
    have hs : i.size = 1 := by simpa [hq] using hi
    simp only [Nat.add_zero] at hr
    have hsv : (storeVar ty ⟨b, o, none⟩ v).run P w = .ok () (w.setCell ⟨b, o, none⟩ v) := by
      simp [storeVar, sizeOf, typeInfo, hq, hv, hs, hr, World.setCells]
    simp only [ho, hx, hy, Instr.storeAt, Instr.sureAddr, Sem.run_bind, Sem.run_pure, Result.andThen_ok, hsv]
    exact h

/-- A number of a row of the call's own is written. -/
theorem OwnN.set {w : World} {B g cap n : Nat} {l : List Int} (h : OwnN w B (.slice (some ⟨g, 0, none⟩) n cap) l) {i : Nat} (hi : i < l.length) (x : Int) :
    w.cell? ⟨g, i, none⟩ = some (.int .u64 (l.getD i 0)) ∧ w.frozen? ⟨g, i, none⟩ = false ∧ OwnN (w.setCell ⟨g, i, none⟩ (.int .u64 x)) B (.slice (some ⟨g, 0, none⟩) n cap) (l.set i x) := by
  obtain ⟨h0, h1⟩ := h
  rcases h1 with ⟨e, _⟩ | ⟨g', cap', cur, e, hb, hg, hn, hcm, hcs, ht⟩
  · cases e
  · cases e
    have hlt : i < cur.size := by omega
    have hc : cur[i]? = some (.int .u64 (l.getD i 0)) := by
      have e1 : (cur.toList.take (l.length * 1))[i]? = (l.map (Value.int .u64))[i]? := by rw [ht]
      rw [List.getElem?_take_of_lt (by omega), List.getElem?_map, List.getElem?_eq_getElem hi] at e1
      simp only [Array.getElem?_toList, Option.map_some] at e1
      rw [e1]; simp [List.getD, List.getElem?_eq_getElem hi]
    refine ⟨by simp only [World.cell?, hg]; simpa using hc, by simp [World.frozen?, hg], by simp, .inr ⟨g, cap, cur.setIfInBounds i (.int .u64 x), by simp, hb, ?_, by simpa using hn, hcm, by simpa using hcs, ?_⟩⟩
    · simp [World.setCell, Array.getElem?_modify, hg]
    · rw [List.length_set, Array.toList_setIfInBounds, List.take_set, ht, List.map_set]

def TLoop (w : World) (tb r : Nat) (c : CpD) (Z : Array Value) (i : Value) (wr : World) (N : Nat) : Prop :=
  ∃ (j : Nat) (v : Value) (l : List Int), j ≤ N ∧ i = .int .i64 j ∧ l.length = j ∧ (∀ x ∈ l, 0 ≤ x ∧ x ≤ 18446744073709551615) ∧ OwnN wr (tb + 1) v l ∧ Blk wr tb (flatP [c.cells, [v]]) ∧ Blk wr r Z ∧ Below w.heap.size w wr

/-- What table hands back. -/
def TableR (w : World) (e : Ending) (w' : World) : Prop :=
  (∃ (c : CpD) (l : List Int) (a : Option Addr) (m : Nat), c.ok ∧ l.length ≤ 4 ∧ e = .returned (.agg (flatP [c.cells, [.slice a l.length m]])) ∧ NumsV w' (.slice a l.length m) l) ∧ Below w.heap.size w w'

theorem table_end {w w5 w6 : World} {tb r : Nat} {c : CpD} {v : Value} {l : List Int} {a : Option Addr} {m : Nat} (hv : v = .slice a l.length m) (hc : c.ok) (hl : l.length ≤ 4) (hr : ∀ x ∈ l, 0 ≤ x ∧ x ≤ 18446744073709551615) (ho : OwnN w5 (tb + 1) v l) (hu : Upd r w5 w6) (hrt : r < tb) (hb : Below w.heap.size w w5) (hwr : w.heap.size ≤ r) :
    TableR w (.returned (.agg (flatP [c.cells, [v]]))) w6 := by
  subst hv
  have hg : w5.grownBy w6 (some r) := ⟨hu.os, hu.tape, hu.output, by rw [hu.size]; exact Nat.le_refl _, fun j _ hj => hu.block j (fun e => hj (by rw [e]))⟩
  have ho6 := ho.grown hg (fun n hn e => by cases e; have := (World.ownsRow.lt ho r hn).1; omega)
  exact ⟨⟨c, l, a, m, hc, hl, rfl, ho6.ints (by unfold maxLen; omega), hr⟩, hu.below hb hwr⟩
end

/-! BkS -/
section
set_option linter.unusedVariables false
set_option linter.unusedSimpArgs false
open Go.RowKit Go.Maps Go.Sort

set_option maxRecDepth 100000

def TeD.d (e : TeD) : CpD × List Int := (e.c, e.l)

def Sorted (ds : List (CpD × List Int)) : Prop := ds.Pairwise fun x y => ltC x.1 y.1

/-- The book and the reference's list hold the same. -/
structure Match (E : List TeD) (ds : List (CpD × List Int)) : Prop where
  perm : (E.map TeD.d).Perm ds
  sorted : Sorted ds

theorem Match.keys {E : List TeD} {ds : List (CpD × List Int)} (h : Match E ds) (c : CpD) : c ∈ ds.map Prod.fst ↔ c ∈ E.map TeD.c := by
  have := (h.perm.map Prod.fst).mem_iff (a := c)
  rw [← this, List.map_map]
  rfl

theorem Match.len {E : List TeD} {ds : List (CpD × List Int)} (h : Match E ds) : E.length = ds.length := by have := h.perm.length_eq; simpa using this

theorem Match.lst {E : List TeD} {ds : List (CpD × List Int)} (h : Match E ds) (hn : (E.map TeD.c).Nodup) {d : CpD × List Int} (hd : d ∈ ds) : tlst E d.1 = d.2 := by
  obtain ⟨e, he, rfl⟩ := List.mem_map.1 (h.perm.mem_iff.2 hd)
  exact tlst_mem hn he

/-- Two sorted lists that hold the same are one. -/
theorem sorted_eq {a b : List (CpD × List Int)} (h1 : Sorted a) (h2 : Sorted b) (hp : a.Perm b) (hok : ∀ d ∈ a, d.1.ok) : a = b :=
  List.Perm.eq_of_pairwise (le := fun (x y : CpD × List Int) => ltC x.1 y.1) (fun x y hx hy l1 l2 => absurd l2 (ltC_asymm (hok x hx) (hok y (hp.mem_iff.2 hy)) l1)) h1 h2 hp

theorem tabs_data {T : List TbS} {E : List TeD} {ds : List (CpD × List Int)} (hm : Match E ds) (hn : (E.map TeD.c).Nodup) (hp : (T.map TbS.c).Perm (E.map TeD.c)) (hs : T.Pairwise (fun x y => ltC x.c y.c)) : T.map (fun x => (x.c, tlst E x.c)) = ds := by
  refine sorted_eq ?_ hm.sorted ?_ ?_
  · unfold Sorted; rw [List.pairwise_map]; exact hs
  · have h1 := hp.map (fun c => (c, tlst E c))
    rw [List.map_map, List.map_map] at h1
    refine List.Perm.trans h1 (List.Perm.trans (List.Perm.of_eq (List.map_congr_left fun e he => ?_)) hm.perm)
    show (e.c, tlst E e.c) = (e.c, e.l)
    rw [tlst_mem hn he]
  · intro d hd
    obtain ⟨x, _, rfl⟩ := List.mem_map.1 hd
    exact x.ok

/-- What Tables hands back as a slice of tables. -/
theorem tabsR_elV {w w' : World} {E : List TeD} {e : Ending} (h : TabsR w E e w') {ds : List (CpD × List Int)} (hm : Match E ds) (hn : (E.map TeD.c).Nodup) (hl : ds.length ≤ 1000) : ∃ v, e = .returned v ∧ Below w.heap.size w w' ∧ ElV (TabEl 0 False) 34 w' v ds := by
  obtain ⟨v, T, rfl, hb, hv, hel, hp, hs⟩ := h
  have hd := tabs_data hm hn hp hs
  have hlen : T.length = ds.length := by rw [← hd]; simp
  refine ⟨v, rfl, hb, ?_⟩
  rcases hv with ⟨rfl, a, k, rfl⟩ | ⟨g, cap, rfl, hg, hlt, h0, hH, _⟩
  · obtain rfl : ds = [] := by rw [← hd]; rfl
    exact ⟨a, k, rfl, Nat.zero_le _, .inl rfl⟩
  · refine ⟨_, cap, by rw [hlen], by unfold maxLen; omega, .inr ⟨g, 0, rfl, hlt, T.map (fun x => (encT x).toArray), holds_rows hH, by simp [hlen], ?_⟩⟩
    intro p hp
    rw [← hd, List.zip_map'] at hp
    obtain ⟨x, hx, rfl⟩ := List.mem_map.1 hp
    obtain ⟨h1, h2, h3⟩ := hel x hx
    exact ⟨x.ok, x.a, x.n, x.k, encT_flat x, h1, (fun z l c e h => Nat.zero_le _), (fun h => h.elim), trivial⟩

theorem known_find {E : List TeD} {ds : List (CpD × List Int)} (hm : Match E ds) {c : CpD} {i : Int} (h : FindR ds c i) : (tget E c).isSome = decide (0 ≤ i) := by
  rw [Bool.eq_iff_iff, decide_eq_true_iff]
  constructor
  · intro hs
    rcases Int.lt_or_le i 0 with hi | hi
    · have := find_neg h hi
      rw [hm.keys] at this
      rw [tget_none.2 this] at hs; cases hs
    · exact hi
  · intro hi
    have := find_pos h hi
    rw [hm.keys] at this
    cases ht : tget E c with
    | none => exact absurd this (tget_none.1 ht)
    | some e => rfl

def sumTo (L : List Int) (v : Int) : Int := (L.take v.toNat).sum

theorem sumTo_step {L : List Int} {v : Int} (h : -1 ≤ v) : sumTo L (v + 1) = sumTo L v + if v < 0 then 0 else L.getD v.toNat 0 := by
  unfold sumTo
  by_cases h0 : v < 0
  · have : v = -1 := by omega
    subst this
    simp
  · rw [if_neg h0]
    obtain ⟨j, rfl⟩ : ∃ j : Nat, v = j := ⟨v.toNat, by omega⟩
    have e : ((j : Int) + 1).toNat = j + 1 := by omega
    rw [e]
    simp only [Int.toNat_natCast]
    rw [List.take_add_one, List.sum_append]
    by_cases hj : j < L.length
    · simp [List.getD, List.getElem?_eq_getElem hj]
    · simp [List.getD, List.getElem?_eq_none (Nat.le_of_not_lt hj)]

theorem sumTo_bal {E : List TeD} {c : CpD} {v : Int} (h : -1 ≤ v) : sumTo (tlst E c) (v + 1) = sumTo (tlst E c) v + balV E c v := sumTo_step h

theorem sumTo_bd {L : List Int} (h : ∀ x ∈ L, 0 ≤ x) (v : Int) : 0 ≤ sumTo L v ∧ sumTo L v ≤ L.sum :=
  ⟨sum_nonneg (fun x hx => h x (List.mem_of_mem_take hx)), take_sum_le h _⟩
end

/-! BkT -/
section
set_option linter.unusedVariables false
set_option linter.unusedSimpArgs false
open Go.RowKit Go.Maps

set_option maxRecDepth 100000
end

/-! BkU -/
section
set_option linter.unusedVariables false
set_option linter.unusedSimpArgs false
open Go.RowKit Go.Maps

set_option maxRecDepth 100000

theorem reg_rr {n lim : Int} {E : List TeD} {ds : List (CpD × List Int)} (hm : Match E ds) (c : CpD) (l : List Int) : regE n lim E c l = rrE n lim ds c l := by
  unfold regE rrE
  rw [hm.len]
  have hk := hm.keys c
  by_cases h : c ∈ ds.map Prod.fst
  · have ht : (tget E c).isSome = true := by
      cases ht : tget E c with
      | none => exact absurd (hk.1 h) (tget_none.1 ht)
      | some e => rfl
    rw [ht, if_pos h]; simp
  · have ht : tget E c = none := tget_none.2 (fun h' => h (hk.2 h'))
    rw [ht, if_neg h]; simp

theorem Match.nil : Match [] [] := ⟨.refl _, List.Pairwise.nil⟩

theorem Match.drop {E : List TeD} {ds : List (CpD × List Int)} (hm : Match E ds) (ep : Int) : Match (dropE ep E) (dropT ep ds) where
  perm := by
    have h := hm.perm.filter (fun d : CpD × List Int => decide (ep ≤ d.1.n))
    rw [List.filter_map] at h
    exact h
  sorted := List.Pairwise.filter _ hm.sorted

theorem Match.add {w : World} {b mb : Nat} {n lim : Int} {E : List TeD} {ds ds' : List (CpD × List Int)} {c : CpD} {l : List Int} (hm : Match E ds) (hB : BookIs w b mb n lim E) (hc : c.ok) (hnot : c ∉ ds.map Prod.fst) (hA : AddR ds c l ds') (v : Value) : Match (⟨c, v, l⟩ :: E) ds' := by
  have hok : ∀ d ∈ ds, d.1.ok := fun d hd => by
    obtain ⟨e, he, rfl⟩ := List.mem_map.1 (hm.perm.mem_iff.2 hd)
    exact hB.map.2.ok e.ent (List.mem_map.2 ⟨e, he, rfl⟩)
  obtain ⟨k, hk, h1, h2, rfl⟩ := hA
  have hs : Sorted (ds.take k ++ ds.drop k) := by rw [List.take_append_drop]; exact hm.sorted
  obtain ⟨s1, s2, s3⟩ := List.pairwise_append.1 hs
  have hlo : ∀ d ∈ ds.take k, ltC d.1 c := fun d hd => by
    obtain ⟨j, hj, rfl⟩ := List.mem_iff_getElem.1 hd
    rw [List.length_take] at hj
    rw [List.getElem_take]
    exact h1 j (by omega) (by omega)
  have hhi : ∀ d ∈ ds.drop k, ltC c d.1 := fun d hd => by
    have hlt : k < ds.length := by
      rcases Nat.lt_or_ge k ds.length with h | h
      · exact h
      · rw [List.drop_eq_nil_of_le h] at hd; cases hd
    have hne : c ≠ ds[k].1 := fun e => hnot (List.mem_map.2 ⟨ds[k], List.getElem_mem hlt, e.symm⟩)
    have h0 : ltC c ds[k].1 := (ltC_total hc (hok _ (List.getElem_mem hlt)) hne).resolve_right (h2 hlt)
    rw [List.drop_eq_getElem_cons hlt] at hd s2
    rcases List.mem_cons.1 hd with rfl | hd'
    · exact h0
    · exact ltC_trans hc (hok _ (List.getElem_mem hlt)) (hok d (List.mem_of_mem_drop hd')) h0 ((List.pairwise_cons.1 s2).1 d hd')
  refine ⟨?_, ?_⟩
  · have h : ((c, l) :: E.map TeD.d).Perm ((c, l) :: (ds.take k ++ ds.drop k)) := by rw [List.take_append_drop]; exact hm.perm.cons _
    exact h.trans List.perm_middle.symm
  · refine List.pairwise_append.2 ⟨s1, List.pairwise_cons.2 ⟨hhi, s2⟩, fun x hx y hy => ?_⟩
    rcases List.mem_cons.1 hy with rfl | hy
    · exact hlo x hx
    · exact s3 x hx y hy

/-- Both registered, or neither. -/
theorem both_reg {w w' : World} {b mb : Nat} {n lim : Int} {E : List TeD} {ds ds' : List (CpD × List Int)} {c : CpD} {l : List Int} {er : Int} (hm : Match E ds) (hB : BookIs w b mb n lim E) (hc : c.ok) (her : rrE n lim ds c l = er) (hl : (E.length : Int) ≤ lim)
    (hr : (er ≠ 0 ∧ ds' = ds) ∨ (er = 0 ∧ AddR ds c l ds'))
    (h1 : er ≠ 0 → BookIs w' b mb n lim E) (h2 : er = 0 → ∃ v', New w.heap.size v' ∧ BookIs w' b mb n lim (⟨c, v', l⟩ :: E)) :
    ∃ E', BookIs w' b mb n lim E' ∧ Match E' ds' ∧ (E'.length : Int) ≤ lim := by
  rcases hr with ⟨h0, rfl⟩ | ⟨h0, hA⟩
  · exact ⟨E, h1 h0, hm, hl⟩
  · obtain ⟨v', _, hB'⟩ := h2 h0
    rw [h0] at her
    unfold rrE at her
    split at her
    · rename_i h; exact absurd her h
    · split at her
      · cases her
      · rename_i hnot
        split at her
        · cases her
        · rename_i hlt
          rw [← hm.len] at hlt
          exact ⟨_, hB', hm.add hB hc hnot hA v', by simp only [List.length_cons]; omega⟩

theorem range_keptMap {w w' : World} {mb b o : Nat} {L : Ents} {cs : List Value} (h : w.rangeAt b o cs) (hb : b < w.heap.size) (hm : MapIs w mb L) (hg : w.grownBy w' (some mb)) : w'.rangeAt b o cs := fun j v hj => by
  have hc := h j v hj
  have hne : some b ≠ some mb := fun e => by
    have := hm.noCell (z := ⟨b, o + j, none⟩) (by cases e; rfl)
    rw [this] at hc; cases hc
  have := hg.block b hb hne
  rw [← hc]; simp [World.cell?, this]

theorem TabsC.keptMap {w w' : World} {mb : Nat} {L : Ents} {v : Value} {ds : List (CpD × List Int)} (h : TabsC w v ds) (hm : MapIs w mb L) (hg : w.grownBy w' (some mb)) : TabsC w' v ds := by
  obtain ⟨⟨a, cap, rfl, hmx, hr⟩, hs⟩ := h
  refine ⟨⟨a, cap, rfl, hmx, ?_⟩, hs⟩
  rcases hr with h0 | ⟨b, off, rfl, hb, Xs, hR, hA⟩
  · exact .inl h0
  · refine .inr ⟨b, off, rfl, Nat.lt_of_lt_of_le hb hg.size, Xs, range_keptMap hR hb hm hg, hA.imp fun X d hX => ?_⟩
    have hE := tabOK 0 False
    have hX' : TabEl 0 False (Off mb) w X d := by
      obtain ⟨hc, a', n, k, e, h1, h2, h3, h4⟩ := hX
      exact ⟨hc, a', n, k, e, h1, h2, h3, hm.offMap h1.1⟩
    exact hE.mono (hE.grown hX' hg fun g y e hy => by cases e; exact hy) fun _ _ => trivial

/-- The book and the list, at the head of the law's loop. -/
def RegI (w : World) (b mb : Nat) (n lim : Int) (v : Value) (wr : World) : Prop :=
  ∃ (E : List TeD) (ds : List (CpD × List Int)), TabsC wr v ds ∧ BookIs wr b mb n lim E ∧ Match E ds ∧ (E.length : Int) ≤ lim ∧ Below w.heap.size w wr
end

end Go.Proofs.Ytcbjjafjomdklaa
