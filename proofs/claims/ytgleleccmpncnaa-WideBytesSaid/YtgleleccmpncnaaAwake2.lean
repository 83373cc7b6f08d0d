/- Stage 2: the sanity check awake answers true. -/
import Derived.Test.YtgleleccmpncnaaFmt
import Derived.Test.YtgleleccmpncnaaWide1
set_option linter.unusedVariables false
namespace Go.Proofs.Ytgleleccmpncnaa
open Go.RowKit

theorem dec_pow64 : strOfNums (decL 18446744073709551616) = ⟨#[49, 56, 52, 52, 54, 55, 52, 52, 48, 55, 51, 55, 48, 57, 53, 53, 49, 54, 49, 54]⟩ := by
  have e : decL 18446744073709551616 = [49, 56, 52, 52, 54, 55, 52, 52, 48, 55, 51, 55, 48, 57, 53, 53, 49, 54, 49, 54] := by
    simp [decL]
  rw [e]
  decide +kernel

theorem from1 (x : Int) (hx : 0 ≤ x) (hx' : x ≤ 18446744073709551615) (w : World) :
    Calls Try.prog 33 #[.int .u64 x] w fun e w' => e = .returned (.agg #[.int .u64 x, .int .u64 0, .int .u64 0, .int .u64 0]) ∧ Below w.heap.size w w' := by
  have H := from_any x hx hx' w
  have e : l0 x = x ∧ l1 x = 0 ∧ l2 x = 0 ∧ l3 x = 0 := by unfold l0 l1 l2 l3; omega
  rw [e.1, e.2.1, e.2.2.1, e.2.2.2] at H
  exact H

set_option maxHeartbeats 1000000 in
theorem awake2 (w : World) : Calls Try.prog 10 #[] w fun e w' => e = .returned (.bool true) ∧ Below w.heap.size w w' := by
  have e1 : l0 18446744073709551615 = 18446744073709551615 ∧ l1 18446744073709551615 = 0 ∧ l2 18446744073709551615 = 0 ∧ l3 18446744073709551615 = 0 := by decide
  have e2 : l0 1 = 1 ∧ l1 1 = 0 ∧ l2 1 = 0 ∧ l3 1 = 0 := by decide
  have H3 := wadd_any 18446744073709551615 1 (by unfold W256; omega) (by unfold W256; omega)
  have e3 : addN 18446744073709551615 1 = 18446744073709551616 := by decide
  have e4 : addF 18446744073709551615 1 = 0 := by decide
  rw [e3, e4] at H3
  have e5 : l0 18446744073709551616 = 0 ∧ l1 18446744073709551616 = 1 ∧ l2 18446744073709551616 = 0 ∧ l3 18446744073709551616 = 0 := by decide
  have H4 := fmt_any 18446744073709551616 (by unfold W256; omega)
  have e6 : (18446744073709551616 : Int).toNat = 18446744073709551616 := rfl
  rw [e6, dec_pow64] at H4
  have heq := eq_wide (n := 18446744073709551616) (m := 18446744073709551616) (by unfold W256; omega) (by unfold W256; omega)
  rw [e5.1, e5.2.1, e5.2.2.1, e5.2.2.2] at H3 H4 heq
  rw [e1.1, e1.2.1, e1.2.2.1, e1.2.2.2, e2.1, e2.2.1, e2.2.2.1, e2.2.2.2] at H3
  have D3 := Lib.hid H3; clear H3
  have D4 := Lib.hid H4; clear H4
  clear e1 e2 e3 e4 e5 e6
  go_enter Try.func10, Try.ntmps10
  have hb := Below.refl w.heap.size w
  go_wp2_with (first
    | (go_at_call 33; refine (from1 _ (by decide) (by decide) _).mono ?_; rintro e w1 ⟨rfl, hb1⟩; have hs1 := hb1.size; replace hb := bel0 hb hb1; clear hb1)
    | (go_at_call 32; refine (D3.out _).mono ?_; rintro e w3 ⟨rfl, hb3⟩; have hs3 := hb3.size; replace hb := bel0 hb hb3; clear hb3)
    | (go_at_call 11; refine (D4.out _).mono ?_; rintro e w4 ⟨rfl, hb4⟩; replace hb := bel1 hb hb4; clear hb4))
  go_ret
  exact ⟨rfl, hb⟩

end Go.Proofs.Ytgleleccmpncnaa
