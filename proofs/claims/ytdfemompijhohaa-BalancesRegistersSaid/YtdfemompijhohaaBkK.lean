/- The reference's CompareCheckpoints, SameTables, DropTables. -/
import Derived.Test.YtdfemompijhohaaBkJ
set_option linter.unusedVariables false
set_option linter.unusedSimpArgs false
namespace Go.Proofs.Ytdfemompijhohaa
open Go.RowKit Go.Maps
set_option maxRecDepth 100000

theorem cfC_ne {c d : CpD} (h : c.n < d.n) : cfC c d = -1 := by unfold cfC orV; rw [cmpI_lt h]; rfl
theorem cfC_gt {c d : CpD} (h : d.n < c.n) : cfC c d = 1 := by unfold cfC orV; rw [cmpI_gt h]; rfl
theorem cfC_eq {c d : CpD} (h : c.n = d.n) : cfC c d = cmpB c.r d.r := by unfold cfC orV; rw [h, cmpI_eq]; rfl

theorem cp_parts {w : World} {b : Nat} {c : CpD} (h : Blk w b c.cells.toArray) : w.cell? ⟨b, 0, none⟩ = some (.int .u64 c.n) ∧ w.rangeAt b 1 (bytesL c.r) :=
  ⟨by rw [h.cell]; simp [CpD.cells], fun j v hj => by rw [h.cell, show 1 + j = j + 1 by omega]; simpa [CpD.cells] using hj⟩

theorem wpList_load_rng {P : Program} {ops : Array Oper} {rest : List Oper} {op : Oper} {a : Act} {w : World} {Q : Exit → Act → World → Prop} (ty : TypeId) (x : Operand) (ho : op.op = .load ty x)
    (b o : Nat) (p : List Value) (hB : w.rangeAt b o p) (hx : a.eval x = .pointer (some ⟨b, o, none⟩)) (d : TypeDesc)
    (hu : P.underlying ty = some d) (hd : d.isRow = true) (hi : (P.info? ty).map (·.size) = some p.length) (hw : Region.wanted op (yielded ops a.tmps) = true)
    (h : wpList P ops Q rest (a.put op.dst (.agg p.toArray)) w) : wpList P ops Q (op :: rest) a w :=
  BigFrame.wpList_want hw fun _ hK => wp_load_mid ty x ho b o hx p d hB hu hd hi (hK _ _ h)

set_option maxHeartbeats 4000000 in
theorem cmpK_any (c d : CpD) (w : World) (hc : c.ok) (hd : d.ok) : Calls Try.prog 40 #[cpX c, cpX d] w fun e w' => e = .returned (.int .i64 (cfC c d)) ∧ Below w.heap.size w w' := by
  have HCR := Lib.hid (fun u => cmpR_any c.r d.r hc.2.2 hd.2.2 u)
  unfold cpX
  obtain ⟨X, HX⟩ : ∃ X, Hid (c.cells.toArray = X) := ⟨_, Lib.hid rfl⟩
  obtain ⟨Y, HY⟩ : ∃ Y, Hid (d.cells.toArray = Y) := ⟨_, Lib.hid rfl⟩
  rw [HX.out, HY.out]
  have HBA := Lib.hid (((Below.refl w.heap.size w).alloc (Nat.le_refl _) (.cells X 26)).alloc (by simp) (.cells Y 26))
  have BX : Blk ((w.alloc (.cells X 26)).alloc (.cells Y 26)) w.heap.size c.cells.toArray := by rw [HX.out]; exact (Blk.new rfl).alloc _
  have BY : Blk ((w.alloc (.cells X 26)).alloc (.cells Y 26)) (w.heap.size + 1) d.cells.toArray := by rw [HY.out]; exact Blk.new (by simp)
  have HPX := Lib.hid (cp_parts BX)
  have HPY := Lib.hid (cp_parts BY)
  have HI1 : (Try.prog.info? 24).map (·.size) = some (bytesL c.r).length := by rw [bytesL_len hc.2.2]; kernel_rfl
  have HI2 : (Try.prog.info? 24).map (·.size) = some (bytesL d.r).length := by rw [bytesL_len hd.2.2]; kernel_rfl
  change Hid (∀ u, Calls Try.prog 56 #[.agg (bytesL c.r).toArray, .agg (bytesL d.r).toArray] u fun e w' => e = .returned (.int .i64 (cmpB c.r d.r)) ∧ Below u.heap.size u w') at HCR
  clear BX BY hc hd
  obtain ⟨R, hR⟩ : ∃ R, Hid (cfC c d = R) := ⟨_, Lib.hid rfl⟩
  rw [hR.out]
  obtain ⟨xn, hxn⟩ : ∃ n, Hid (c.n = n) := ⟨_, Lib.hid rfl⟩
  obtain ⟨yn, hyn⟩ : ∃ n, Hid (d.n = n) := ⟨_, Lib.hid rfl⟩
  have c0 : ((w.alloc (.cells X 26)).alloc (.cells Y 26)).cell? ⟨w.heap.size, 0, none⟩ = some (.int .u64 xn) := by rw [← hxn.out]; exact HPX.out.1
  have d0 : ((w.alloc (.cells X 26)).alloc (.cells Y 26)).cell? ⟨w.heap.size + 1, 0, none⟩ = some (.int .u64 yn) := by rw [← hyn.out]; exact HPY.out.1
  have HC0 := Lib.hid c0
  have HD0 := Lib.hid d0
  clear c0 d0
  obtain ⟨rx, hrx⟩ : ∃ n, Hid (bytesL c.r = n) := ⟨_, Lib.hid rfl⟩
  obtain ⟨ry, hry⟩ : ∃ n, Hid (bytesL d.r = n) := ⟨_, Lib.hid rfl⟩
  rw [hrx.out, hry.out] at HCR
  rw [hrx.out] at HPX HI1
  rw [hry.out] at HPY HI2
  rcases Int.lt_trichotomy xn yn with h | h | h
  · have HE : Hid (R = -1) := by show _ = _; rw [← hR.out]; exact cfC_ne (by rw [hxn.out, hyn.out]; exact h)
    rw [HE.out]
    have hq : (xn != yn) = true := by simp; omega
    go_enter Try.func40, Try.ntmps40
    go_wp2_with (first
      | ((with_reducible refine at_load (.tmp 5) ?_); refine wpList_load_1 22 (.tmp 5) rfl w.heap.size 0 (.int .u64 xn) HC0.out rfl _ Try.underlying22 rfl rfl ?_)
      | ((with_reducible refine at_load (.tmp 7) ?_); refine wpList_load_1 22 (.tmp 7) rfl (w.heap.size + 1) 0 (.int .u64 yn) HD0.out rfl _ Try.underlying22 rfl rfl ?_)
      | ((with_reducible refine at_load (.tmp 10) ?_); refine wpList_load_1 22 (.tmp 10) rfl w.heap.size 0 (.int .u64 xn) HC0.out rfl _ Try.underlying22 rfl rfl ?_)
      | ((with_reducible refine at_load (.tmp 12) ?_); refine wpList_load_1 22 (.tmp 12) rfl (w.heap.size + 1) 0 (.int .u64 yn) HD0.out rfl _ Try.underlying22 rfl rfl ?_))
    go_ret
    exact ⟨rfl, HBA.out⟩
  · subst h
    have HE : Hid (R = cmpB c.r d.r) := by show _ = _; rw [← hR.out]; exact cfC_eq (by rw [hxn.out, hyn.out])
    rw [HE.out]
    obtain ⟨rr, hrr⟩ : ∃ r, cmpB c.r d.r = r := ⟨_, rfl⟩
    rw [hrr] at HCR ⊢
    clear hrr
    have hq : (xn != xn) = false := by simp
    go_enter Try.func40, Try.ntmps40
    go_wp2_with (first
      | ((with_reducible refine at_load (.tmp 5) ?_); refine wpList_load_1 22 (.tmp 5) rfl w.heap.size 0 (.int .u64 xn) HC0.out rfl _ Try.underlying22 rfl rfl ?_)
      | ((with_reducible refine at_load (.tmp 7) ?_); refine wpList_load_1 22 (.tmp 7) rfl (w.heap.size + 1) 0 (.int .u64 xn) HD0.out rfl _ Try.underlying22 rfl rfl ?_)
      | ((with_reducible refine at_load (.tmp 15) ?_); refine wpList_load_rng 24 (.tmp 15) rfl w.heap.size 1 rx HPX.out.2 rfl _ Try.underlying24 rfl HI1 rfl ?_)
      | ((with_reducible refine at_load (.tmp 17) ?_); refine wpList_load_rng 24 (.tmp 17) rfl (w.heap.size + 1) 1 ry HPY.out.2 rfl _ Try.underlying24 rfl HI2 rfl ?_)
      | (go_at_call 56; refine (HCR.out _).mono ?_; rintro e w1 ⟨rfl, hb1⟩; have HB1 := Lib.hid (HBA.out.trans (hb1.mono HBA.out.size)); clear hb1))
    go_ret
    exact ⟨rfl, HB1.out⟩
  · have HE : Hid (R = 1) := by show _ = _; rw [← hR.out]; exact cfC_gt (by rw [hxn.out, hyn.out]; exact h)
    rw [HE.out]
    have hq : (xn != yn) = true := by simp; omega
    have hn : ¬ xn < yn := by omega
    go_enter Try.func40, Try.ntmps40
    go_wp2_with (first
      | ((with_reducible refine at_load (.tmp 5) ?_); refine wpList_load_1 22 (.tmp 5) rfl w.heap.size 0 (.int .u64 xn) HC0.out rfl _ Try.underlying22 rfl rfl ?_)
      | ((with_reducible refine at_load (.tmp 7) ?_); refine wpList_load_1 22 (.tmp 7) rfl (w.heap.size + 1) 0 (.int .u64 yn) HD0.out rfl _ Try.underlying22 rfl rfl ?_)
      | ((with_reducible refine at_load (.tmp 10) ?_); refine wpList_load_1 22 (.tmp 10) rfl w.heap.size 0 (.int .u64 xn) HC0.out rfl _ Try.underlying22 rfl rfl ?_)
      | ((with_reducible refine at_load (.tmp 12) ?_); refine wpList_load_1 22 (.tmp 12) rfl (w.heap.size + 1) 0 (.int .u64 yn) HD0.out rfl _ Try.underlying22 rfl rfl ?_))
    go_ret
    exact ⟨rfl, HBA.out⟩

/-- SameTables of two lists that hold the same. -/
theorem stab_yes (c : CpD) (v1 v2 : Value) (l : List Int) (w : World) (hc : c.ok) (h1 : NumsV w v1 l) (h2 : NumsV w v2 l) :
    Calls Try.prog 42 #[.agg (flatP [c.cells, [v1]]), .agg (flatP [c.cells, [v2]])] w fun e w' => e = .returned (.bool true) ∧ Below w.heap.size w w' := by
  refine (stab2 c c v1 v2 l l w hc hc h1 h2).mono ?_
  rintro e w' ⟨b, rfl, hb, hbl⟩
  exact ⟨by rw [hb.2 ⟨rfl, rfl⟩], hbl⟩

set_option maxHeartbeats 8000000 in
theorem stabs_yes {N : Nat} {fr : Prop} (v1 v2 : Value) (ds : List (CpD × List Int)) (w : World) (h1 : ElV (TabEl N fr) 34 w v1 ds) (h2 : TabsV w v2 ds) (hm : ds.length ≤ 1000000) :
    Calls Try.prog 31 #[v1, v2] w fun e w' => e = .returned (.bool true) ∧ Below w.heap.size w w' := by
  obtain ⟨a1, k1, rfl, _⟩ := h1.shape
  obtain ⟨a2, k2, rfl, _⟩ := h2.shape
  have H1 := Lib.hid h1
  have H2 := Lib.hid h2
  have hne : ((ds.length : Int) != ds.length) = false := by simp
  clear h1 h2
  go_enter Try.func31, Try.ntmps31
  go_wp2_with fail
  go_loopw [5] (fun i wr => ∃ k : Nat, k ≤ ds.length ∧ i = .int .i64 k ∧ Below w.heap.size w wr) (fun i _ => ds.length - (intOf i).toNat)
  case atStart => exact ⟨0, Nat.zero_le _, rfl, Below.refl _ _⟩
  case round =>
    obtain ⟨k, hk, rfl, hbel⟩ := hrel
    have HBL := Lib.hid hbel
    clear hbel
    by_cases hlt : k < ds.length
    · obtain ⟨b1, o1, X1, e1, _, hb1, hr1, ⟨hck, x1, n1, y1, hX1, hv1, _⟩, hs1, _⟩ := ElV.at (tabOK N fr) (ElV.below (tabOK N fr) H1.out HBL.out) hlt
      obtain ⟨b2, o2, x2, n2, y2, e2, _, hb2, hr2, _, hv2⟩ := (H2.out.below HBL.out).elem hlt
      subst e1
      subst e2
      have HBT1 := Lib.hid hb1
      have HBT2 := Lib.hid hb2
      have HS := Lib.hid (fun u (hu : Below wr.heap.size wr u) => stab_yes ds[k].1 _ _ ds[k].2 u hck (hv1.below hu) (hv2.below hu))
      have hs2 : (flatP [ds[k].1.cells, [.slice x2 n2 y2]]).size = 34 := (tabOff hck _).2.2
      rw [← hX1] at HS
      obtain ⟨X2, hX2⟩ : ∃ X, flatP [ds[k].1.cells, [.slice x2 n2 y2]] = X := ⟨_, rfl⟩
      rw [hX2] at HS hr2 hs2
      have HR1 := Lib.hid hr1
      have HR2 := Lib.hid hr2
      have hi1 : (Try.prog.info? 29).map (·.size) = some X1.toList.length := by rw [Array.length_toList, hs1]; kernel_rfl
      have hi2 : (Try.prog.info? 29).map (·.size) = some X2.toList.length := by rw [Array.length_toList, hs2]; kernel_rfl
      clear hv1 hv2 hr1 hr2 hb1 hb2 hck hX1 hX2
      go_wp2_with fail
      refine wp_region_fam2 (by kernel_rfl) (by kernel_rfl) ?_
      intro T F hT hF hG
      have C1 := Lib.hid (show ∀ u, (∃ t, u = F t) → u.rangeAt b1 (o1 + k * 34) X1.toList by rintro _ ⟨t, rfl⟩; exact Below.rng (hF t) HBT1.out HR1.out)
      have C2 := Lib.hid (show ∀ u, (∃ t, u = F t) → u.rangeAt b2 (o2 + k * 34) X2.toList by rintro _ ⟨t, rfl⟩; exact Below.rng (hF t) HBT2.out HR2.out)
      have CS := Lib.hid (fun t => HS.out (F t) (hF t))
      repeat (first
        | ((with_reducible refine at_qload (.tmp 19) ?_); refine wpQuiet_load_midE 29 _ rfl b1 (o1 + k * 34) rfl X1.toList C1.out Try.underlying29 rfl hi1 (by kernel_rfl) ?_; simp only [Array.toArray_toList, Act.put, List.setIfInBounds_toArray, List.set_cons_succ, List.set_cons_zero])
        | ((with_reducible refine at_qload (.tmp 23) ?_); refine wpQuiet_load_midE 29 _ rfl b2 (o2 + k * 34) rfl X2.toList C2.out Try.underlying29 rfl hi2 (by kernel_rfl) ?_; simp only [Array.toArray_toList, Act.put, List.setIfInBounds_toArray, List.set_cons_succ, List.set_cons_zero])
        | (go_big_quiet_step ((go_at_call 42; exact fam_call hF hG (Nat.le_refl _) (CS.out _)))))
      refine wpQuiet_nil ?_
      rintro _ ⟨t, rfl⟩
      have HF := Lib.hid (HBL.out.trans ((hF t).mono HBL.out.size))
      clear C1 C2 CS hF hG
      go_wp2_with fail
      go_roundw
      case rel => exact ⟨k + 1, by omega, by go_num, HF.out⟩
      case measure => simp [intOf]; omega
    · go_wp2_with fail
      go_ret
      exact ⟨rfl, HBL.out⟩

end Go.Proofs.Ytdfemompijhohaa
