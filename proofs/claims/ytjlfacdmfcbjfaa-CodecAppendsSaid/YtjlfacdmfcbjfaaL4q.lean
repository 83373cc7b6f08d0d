/- Stage 4: CodecAppends. -/
import Derived.Test.YtjlfacdmfcbjfaaL4p
import Derived.Test.YtjlfacdmfcbjfaaL4c
set_option linter.unusedVariables false
namespace Go.Proofs.Ytjlfacdmfcbjfaa
open Go.RowKit

set_option maxRecDepth 1000000 in
set_option maxHeartbeats 2000000 in
theorem walk_CodecAppends (a0 : Option Addr) (len0 cap0 : Nat) (z0 : List Int) (a1 : Int) (a2 : Bool) (a3 a4 : List Int) (a5 : Option Addr) (len5 cap5 : Nat) (z5 : List Int) (w : World) (w0 : IsRow .u8 w a0 len0 cap0 z0) (w1 : (Lit.int .u64 a1).wf = true)
    (w3 : a3.length = 32 ∧ ∀ x ∈ a3, (Lit.int .u8 x).wf = true) (w4 : a4.length = 4 ∧ ∀ x ∈ a4, (Lit.int .u64 x).wf = true) (w5 : IsRow .u8 w a5 len5 cap5 z5) :
    Calls Try.prog 3 #[.slice a0 len0 cap0, .int .u64 a1, .bool a2, .agg (a3.map (Value.int .u8)).toArray, .agg (a4.map (Value.int .u64)).toArray, .slice a5 len5 cap5] w fun e w' => e = .returned (.bool true) ∧ Below w.heap.size w w' := by
  obtain ⟨m, hm, e⟩ := wide_of w4
  rw [e]
  have hn := wf_u64 w1
  have hy := w0.byt
  have ht := w5.byt
  have hf4 := hy.fits _ _ _ rfl
  have hf5 := ht.fits _ _ _ rfl
  unfold maxLen at hf4 hf5
  by_cases hl : len0 ≤ 1000 ∧ len5 ≤ 1000
  · exact appends_any a0 len0 cap0 _ a1 a2 a3 m a5 len5 cap5 _ w hy hn.1 hn.2 w3 hm ht hl.1 hl.2
  · have b2 : Below w.heap.size w ((w.alloc (.cells (bytesV a3) 25)).alloc (.cells #[.int .u64 (l0 m), .int .u64 (l1 m), .int .u64 (l2 m), .int .u64 (l3 m)] 27)) := ((Below.refl _ _).alloc (Nat.le_refl _) _).alloc (by simp) _
    have e2 : (a3.map (Value.int .u8)).toArray = bytesV a3 := rfl
    rw [e2]
    have hX0 : (bytesV a3).size = 32 := bytesV_size w3.1
    obtain ⟨X, HX⟩ : ∃ X, bytesV a3 = X := ⟨_, rfl⟩
    rw [HX] at b2 hX0 ⊢
    clear HX e2 hy ht w0 w5 w1 w3 w4 e
    by_cases h4 : 1000 < len0
    · go_enter Try.func3, Try.ntmps3
      go_wp2_with (go_at_call 9; refine (awake4 _).mono ?_; rintro e w1 ⟨rfl, hb1⟩)
      go_ret
      exact ⟨rfl, b2.trans (hb1.mono b2.size)⟩
    · have h5 : 1000 < len5 := by omega
      go_enter Try.func3, Try.ntmps3
      go_wp2_with (go_at_call 9; refine (awake4 _).mono ?_; rintro e w1 ⟨rfl, hb1⟩)
      go_ret
      exact ⟨rfl, b2.trans (hb1.mono b2.size)⟩

end Go.Proofs.Ytjlfacdmfcbjfaa
