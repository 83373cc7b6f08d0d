/- Stage 4: the walks of CodecSums and CodecSumsDiffer. -/
import Derived.Test.YtjlfacdmfcbjfaaCdK
import Derived.RegionTactic
import Derived.ChangeAlike
set_option linter.unusedVariables false
namespace Go.Proofs.Ytjlfacdmfcbjfaa
open Go.RowKit

set_option maxHeartbeats 1000000 in
theorem walk_CodecSums (a0 : Option Addr) (len0 cap0 : Nat) (z0 : List Int) (w : World) (w0 : IsRow .u8 w a0 len0 cap0 z0) :
    Calls Try.prog 4 #[.slice a0 len0 cap0] w fun e w' => e = .returned (.bool true) ∧ Below w.heap.size w w' := by
  have h := w0.byt
  have hm : len0 ≤ 9223372036854775807 := by
    have := h.fits _ _ _ rfl
    unfold maxLen at this; omega
  have D1 := Lib.hid (cksum_any _ _ w h)
  have D2 := Lib.hid (rcksum_any _ _ w h)
  clear h w0
  by_cases hb : 3000 < len0
  · go_enter Try.func4, Try.ntmps4
    go_wp2_with (go_at_call 9; refine (awake4 _).mono ?_; rintro e w1 ⟨rfl, hb1⟩)
    go_ret
    exact ⟨rfl, hb1⟩
  · go_enter Try.func4, Try.ntmps4
    go_wp2_with (first
      | (go_at_call 22; refine D1.out.mono ?_; rintro e w1 ⟨rfl, rfl⟩)
      | (go_at_call 23; refine D2.out.mono ?_; rintro e w1 ⟨rfl, rfl⟩)
      | (go_at_call 9; refine (awake4 _).mono ?_; rintro e w1 ⟨rfl, hb1⟩))
    go_ret
    exact ⟨rfl, hb1⟩

end Go.Proofs.Ytjlfacdmfcbjfaa
