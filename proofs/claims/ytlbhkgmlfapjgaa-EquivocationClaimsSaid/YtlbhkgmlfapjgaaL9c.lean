/- EquivocationClaims. -/
import Derived.Test.YtlbhkgmlfapjgaaEqB
set_option linter.unusedVariables false

set_option linter.unusedSimpArgs false
namespace Go.Proofs.Ytlbhkgmlfapjgaa
open Go.RowKit

set_option maxRecDepth 100000

theorem rsla_cl (x y : ClD) (q : Bool) (w : World) (hx : x.ok) (hy : y.ok) (hq : decide (SlaP x y) = q) :
    Calls Try.prog 9 #[.agg x.cells.toArray, .agg y.cells.toArray] w fun e w' => e = .returned (.bool q) ∧ Below w.heap.size w w' := hq ▸ slashable_any x y w hx hy

set_option maxHeartbeats 8000000 in
theorem walk_EquivocationClaims (x : ClD) (l : List Int) (y : ClD) (m : List Int) (w : World) (hx : x.ok) (h1 : IntsV w x.v l) (hy : y.ok) (h2 : IntsV w y.v m) :
    Calls Try.prog 3 #[.agg x.cells.toArray, .agg y.cells.toArray] w fun e w' => e = .returned (.bool true) ∧ Below w.heap.size w w' := by
  have HA := Lib.hid awake9_any
  obtain ⟨q, hq⟩ : ∃ q : Bool, decide (SlaP x y) = q := ⟨_, rfl⟩
  have H1 := Lib.hid (fun u => sla_cl x y q u hx hy hq)
  have H2 := Lib.hid (fun u => rsla_cl x y q u hx hy hq)
  have H3 := Lib.hid (fun u => sla_cl y x q u hy hx (by rw [sla_symm]; exact hq))
  have H4 := Lib.hid (fun u => sla_cl x x false u hx hx (sla_self x))
  have hi1 : (Try.prog.info? 27).map (·.size) = some x.cells.length := by rw [ClD.len hx]; kernel_rfl
  have hi2 : (Try.prog.info? 27).map (·.size) = some y.cells.length := by rw [ClD.len hy]; kernel_rfl
  have HK10 : Hid (Blk ((w.alloc (.cells x.cells.toArray 27)).alloc (.cells y.cells.toArray 27)) w.heap.size x.cells.toArray) := (Blk.new rfl).alloc _
  have HK20 : Hid (Blk ((w.alloc (.cells x.cells.toArray 27)).alloc (.cells y.cells.toArray 27)) (w.heap.size + 1) y.cells.toArray) := Blk.new (by simp)
  have HL0 := Lib.hid (((Below.refl w.heap.size w).alloc (Nat.le_refl _) (.cells x.cells.toArray 27)).alloc (by simp) (.cells y.cells.toArray 27))
  clear hx hy h1 h2 hq
  obtain ⟨X, hX⟩ : ∃ z, x.cells = z := ⟨_, rfl⟩; rw [hX] at H1 H2 H3 H4 hi1 HK10 HK20 HL0 ⊢; clear hX
  obtain ⟨Y, hY⟩ : ∃ z, y.cells = z := ⟨_, rfl⟩; rw [hY] at H1 H2 H3 hi2 HK10 HK20 HL0 ⊢; clear hY
  cases q
  case true =>
    go_enter Try.func3, Try.ntmps3
    go_wp2_with (first
      | ((with_reducible refine at_load (.tmp 2) ?_); refine wpList_load_rng 27 (.tmp 2) rfl w.heap.size 0 X HK13.out.rng rfl _ Try.underlying27 rfl hi1 rfl ?_)
      | ((with_reducible refine at_load (.tmp 3) ?_); refine wpList_load_rng 27 (.tmp 3) rfl (w.heap.size + 1) 0 Y HK23.out.rng rfl _ Try.underlying27 rfl hi2 rfl ?_)
      | ((with_reducible refine at_load (.tmp 2) ?_); refine wpList_load_rng 27 (.tmp 2) rfl w.heap.size 0 X HK12.out.rng rfl _ Try.underlying27 rfl hi1 rfl ?_)
      | ((with_reducible refine at_load (.tmp 3) ?_); refine wpList_load_rng 27 (.tmp 3) rfl (w.heap.size + 1) 0 Y HK22.out.rng rfl _ Try.underlying27 rfl hi2 rfl ?_)
      | ((with_reducible refine at_load (.tmp 2) ?_); refine wpList_load_rng 27 (.tmp 2) rfl w.heap.size 0 X HK11.out.rng rfl _ Try.underlying27 rfl hi1 rfl ?_)
      | ((with_reducible refine at_load (.tmp 3) ?_); refine wpList_load_rng 27 (.tmp 3) rfl (w.heap.size + 1) 0 Y HK21.out.rng rfl _ Try.underlying27 rfl hi2 rfl ?_)
      | ((with_reducible refine at_load (.tmp 2) ?_); refine wpList_load_rng 27 (.tmp 2) rfl w.heap.size 0 X HK10.out.rng rfl _ Try.underlying27 rfl hi1 rfl ?_)
      | ((with_reducible refine at_load (.tmp 3) ?_); refine wpList_load_rng 27 (.tmp 3) rfl (w.heap.size + 1) 0 Y HK20.out.rng rfl _ Try.underlying27 rfl hi2 rfl ?_)
      | (go_at_call 10; refine (HA.out _).mono ?_; rintro e w5 ⟨rfl, hb⟩; have HL5 := Lib.hid (HL4.out.trans (hb.mono HL4.out.size)); clear hb)
      | (go_at_call 8; have _d := HK13; refine (H4.out _).mono ?_; clear _d; rintro e w4 ⟨rfl, hb⟩; have HK14 := Lib.hid (HK13.out.call hb); have HK24 := Lib.hid (HK23.out.call hb); have HL4 := Lib.hid (HL3.out.trans (hb.mono HL3.out.size)); clear hb)
      | (go_at_call 8; have _d := HK12; refine (H3.out _).mono ?_; clear _d; rintro e w3 ⟨rfl, hb⟩; have HK13 := Lib.hid (HK12.out.call hb); have HK23 := Lib.hid (HK22.out.call hb); have HL3 := Lib.hid (HL2.out.trans (hb.mono HL2.out.size)); clear hb)
      | (go_at_call 9; have _d := HK11; refine (H2.out _).mono ?_; clear _d; rintro e w2 ⟨rfl, hb⟩; have HK12 := Lib.hid (HK11.out.call hb); have HK22 := Lib.hid (HK21.out.call hb); have HL2 := Lib.hid (HL1.out.trans (hb.mono HL1.out.size)); clear hb)
      | (go_at_call 8; have _d := HK10; refine (H1.out _).mono ?_; clear _d; rintro e w1 ⟨rfl, hb⟩; have HK11 := Lib.hid (HK10.out.call hb); have HK21 := Lib.hid (HK20.out.call hb); have HL1 := Lib.hid (HL0.out.trans (hb.mono HL0.out.size)); clear hb)
      | fail)
    go_ret
    exact ⟨rfl, HL5.out⟩
  case false =>
    go_enter Try.func3, Try.ntmps3
    go_wp2_with (first
      | ((with_reducible refine at_load (.tmp 2) ?_); refine wpList_load_rng 27 (.tmp 2) rfl w.heap.size 0 X HK13.out.rng rfl _ Try.underlying27 rfl hi1 rfl ?_)
      | ((with_reducible refine at_load (.tmp 3) ?_); refine wpList_load_rng 27 (.tmp 3) rfl (w.heap.size + 1) 0 Y HK23.out.rng rfl _ Try.underlying27 rfl hi2 rfl ?_)
      | ((with_reducible refine at_load (.tmp 2) ?_); refine wpList_load_rng 27 (.tmp 2) rfl w.heap.size 0 X HK12.out.rng rfl _ Try.underlying27 rfl hi1 rfl ?_)
      | ((with_reducible refine at_load (.tmp 3) ?_); refine wpList_load_rng 27 (.tmp 3) rfl (w.heap.size + 1) 0 Y HK22.out.rng rfl _ Try.underlying27 rfl hi2 rfl ?_)
      | ((with_reducible refine at_load (.tmp 2) ?_); refine wpList_load_rng 27 (.tmp 2) rfl w.heap.size 0 X HK11.out.rng rfl _ Try.underlying27 rfl hi1 rfl ?_)
      | ((with_reducible refine at_load (.tmp 3) ?_); refine wpList_load_rng 27 (.tmp 3) rfl (w.heap.size + 1) 0 Y HK21.out.rng rfl _ Try.underlying27 rfl hi2 rfl ?_)
      | ((with_reducible refine at_load (.tmp 2) ?_); refine wpList_load_rng 27 (.tmp 2) rfl w.heap.size 0 X HK10.out.rng rfl _ Try.underlying27 rfl hi1 rfl ?_)
      | ((with_reducible refine at_load (.tmp 3) ?_); refine wpList_load_rng 27 (.tmp 3) rfl (w.heap.size + 1) 0 Y HK20.out.rng rfl _ Try.underlying27 rfl hi2 rfl ?_)
      | (go_at_call 10; refine (HA.out _).mono ?_; rintro e w5 ⟨rfl, hb⟩; have HL5 := Lib.hid (HL4.out.trans (hb.mono HL4.out.size)); clear hb)
      | (go_at_call 8; have _d := HK13; refine (H4.out _).mono ?_; clear _d; rintro e w4 ⟨rfl, hb⟩; have HK14 := Lib.hid (HK13.out.call hb); have HK24 := Lib.hid (HK23.out.call hb); have HL4 := Lib.hid (HL3.out.trans (hb.mono HL3.out.size)); clear hb)
      | (go_at_call 8; have _d := HK12; refine (H3.out _).mono ?_; clear _d; rintro e w3 ⟨rfl, hb⟩; have HK13 := Lib.hid (HK12.out.call hb); have HK23 := Lib.hid (HK22.out.call hb); have HL3 := Lib.hid (HL2.out.trans (hb.mono HL2.out.size)); clear hb)
      | (go_at_call 9; have _d := HK11; refine (H2.out _).mono ?_; clear _d; rintro e w2 ⟨rfl, hb⟩; have HK12 := Lib.hid (HK11.out.call hb); have HK22 := Lib.hid (HK21.out.call hb); have HL2 := Lib.hid (HL1.out.trans (hb.mono HL1.out.size)); clear hb)
      | (go_at_call 8; have _d := HK10; refine (H1.out _).mono ?_; clear _d; rintro e w1 ⟨rfl, hb⟩; have HK11 := Lib.hid (HK10.out.call hb); have HK21 := Lib.hid (HK20.out.call hb); have HL1 := Lib.hid (HL0.out.trans (hb.mono HL0.out.size)); clear hb)
      | fail)
    go_ret
    exact ⟨rfl, HL5.out⟩
end Go.Proofs.Ytlbhkgmlfapjgaa
