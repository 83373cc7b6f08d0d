/- BoostAmounts. -/
import Derived.Test.YtidimiioglgliaaBsA
set_option linter.unusedVariables false

set_option linter.unusedSimpArgs false
namespace Go.Proofs.Ytidimiioglgliaa
open Go.RowKit

set_option maxRecDepth 100000

set_option maxHeartbeats 4000000 in
theorem walk_BoostAmounts (a0 a1 a2 : Int) (w : World) (w0 : (Lit.int .u64 a0).wf = true) (w1 : (Lit.int .u64 a1).wf = true) (w2 : (Lit.int .u64 a2).wf = true) :
    Calls Try.prog 3 #[.int .u64 a0, .int .u64 a1, .int .u64 a2] w fun e w' => e = .returned (.bool true) ∧ Below w.heap.size w w' := by
  have HA : Hid (∀ u, Calls Try.prog 7 #[.agg (cfS a0 a1), .int .u64 a2] u fun e w' => e = .returned (.tuple #[.int .u64 (amtN a0 a1 a2).1, .int .i64 (amtN a0 a1 a2).2]) ∧ Below u.heap.size u w') := fun u => camt_cfs a0 a1 a2 u (wf_u64 w0) (wf_u64 w1) (wf_u64 w2)
  have HR : Hid (∀ u, Calls Try.prog 8 #[.agg (cfS a0 a1), .int .u64 a2] u fun e w' => e = .returned (.tuple #[.int .u64 (amtN a0 a1 a2).1, .int .i64 (amtN a0 a1 a2).2]) ∧ Below u.heap.size u w') := fun u => amt_cfs a0 a1 a2 u (wf_u64 w0) (wf_u64 w1) (wf_u64 w2)
  have HB := Lib.hid (build_cfs a0 a1)
  have HS := Lib.hid (cfS_size a0 a1)
  have HO1 : ∀ v ∈ cfS a0 a1, v.oneCell' = true := fun v hv => cfS_one a0 a1 v (Array.mem_toList_iff.2 hv)
  have HI : (Try.prog.info? 31).map (·.size) = some (cfS a0 a1).size := by rw [HS.out]; kernel_rfl
  have HW := Lib.hid awake15_any
  obtain ⟨x, hx⟩ : ∃ x, (amtN a0 a1 a2).1 = x := ⟨_, rfl⟩
  obtain ⟨f, hf⟩ : ∃ x, (amtN a0 a1 a2).2 = x := ⟨_, rfl⟩
  rw [hx, hf] at HA HR
  obtain ⟨C, hC⟩ : ∃ C, cfS a0 a1 = C := ⟨_, rfl⟩
  rw [hC] at HA HR HB HS HO1 HI
  clear hC hx hf
  go_enter Try.func3, Try.ntmps3
  go_wp2_with (first
    | ((with_reducible refine at_build (some 14) ?_); refine wpList_build_g 31 _ rfl #[(1, .int .u64 a0), (2, .int .u64 a1)] (by simp [Act.eval, Act.put]) (.agg C) (HB.out _) rfl ?_)
    | ((with_reducible refine at_store (.tmp 7) ?_); refine wpList_store_blk rfl 31 (.tmp 7) _ rfl w.heap.size C rfl rfl _ (Blk.new rfl) (by rw [HS.out]; rfl) HI HO1 ?_; intro w3 U3 B3; have S3 : Hid (PaS w C w3) := ⟨B3, U3.below ((Below.refl w.heap.size w).alloc (Nat.le_refl _) _) (Nat.le_refl _)⟩; clear U3 B3)
    | ((with_reducible refine at_load (.tmp 7) ?_); refine wpList_load_g 31 (.tmp 7) rfl w.heap.size rfl C _ S3.out.t Try.underlying31 rfl HI rfl ?_)
    | (go_at_call 7; refine (HA.out _).mono ?_; rintro e w4 ⟨rfl, hb4⟩; have S3 := Lib.hid (S3.out.call hb4); clear hb4)
    | (go_at_call 8; refine (HR.out _).mono ?_; rintro e w5 ⟨rfl, hb5⟩; have S3 := Lib.hid (S3.out.call hb5); clear hb5)
    | (go_at_call 9; refine (HW.out _).mono ?_; rintro e w6 ⟨rfl, hb6⟩; have S3 := Lib.hid (S3.out.call hb6); clear hb6))
  go_ret
  exact ⟨rfl, S3.out.b⟩
end Go.Proofs.Ytidimiioglgliaa
