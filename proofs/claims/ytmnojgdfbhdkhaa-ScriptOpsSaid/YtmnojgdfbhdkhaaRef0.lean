/- Contracts of the reference's half and put: half limb i of a number; the number with half limb i set. Conditions: i from 0 to 7; for put: the number has no half limb from i on. -/
import Derived.Test.YtmnojgdfbhdkhaaMath
import Derived.Test.YtmnojgdfbhdkhaaWorld
set_option linter.unusedVariables false
namespace Go.Proofs.Ytmnojgdfbhdkhaa
open Go.RowKit

/-- Half limb i. -/
def hf (n : Int) (i : Nat) : Int := n / (4294967296 : Int) ^ i % 4294967296

theorem hf_rng (n : Int) (i : Nat) : 0 ≤ hf n i ∧ hf n i < 4294967296 := by unfold hf; omega

theorem or_lo (b x : Int) (hb : 0 ≤ b) (hb2 : b < 4294967296) (hx : 0 ≤ x) (hx2 : x < 4294967296) : bits .or .u64 b (x * 4294967296) = b + x * 4294967296 := by
  obtain ⟨b, rfl⟩ := Int.eq_ofNat_of_zero_le hb
  obtain ⟨x, rfl⟩ := Int.eq_ofNat_of_zero_le hx
  have h := or_low 32 x b (by omega) (by omega)
  have e : ((x : Int) * 4294967296) = ((x * 2 ^ 32 : Nat) : Int) := by omega
  rw [e, bits_or_u64_nat _ _ (by omega) (by omega), Nat.or_comm]
  rw [bits_or_u64_nat _ _ (by omega) (by omega)] at h
  omega

theorem or_zero (x : Int) (hx : 0 ≤ x) (hx2 : x < 18446744073709551616) : bits .or .u64 0 x = x := by
  obtain ⟨x, rfl⟩ := Int.eq_ofNat_of_zero_le hx
  rw [show (0 : Int) = ((0 : Nat) : Int) from rfl, bits_or_u64_nat _ _ (by omega) (by omega), Nat.zero_or]

/-- The number modulo the next power: one half limb more. -/
theorem mod_next (n : Int) (k : Nat) : n % (4294967296 : Int) ^ (k + 1) = n % (4294967296 : Int) ^ k + (4294967296 : Int) ^ k * hf n k := by
  unfold hf
  rw [Int.pow_succ]
  have hp : (0 : Int) < (4294967296 : Int) ^ k := Int.pow_pos (by omega)
  generalize (4294967296 : Int) ^ k = P at *
  have h1 := Int.mul_ediv_add_emod n P
  have h2 := Int.mul_ediv_add_emod (n / P) 4294967296
  have h3 := Int.emod_nonneg n (show P ≠ 0 by omega)
  have h4 := Int.emod_lt_of_pos n hp
  have h5 := Int.emod_nonneg (n / P) (show (4294967296 : Int) ≠ 0 by omega)
  have h6 := Int.emod_lt_of_pos (n / P) (show (0 : Int) < 4294967296 by omega)
  generalize n / P % 4294967296 = r at *
  generalize n % P = s at *
  have hle : P * r ≤ P * 4294967295 := Int.mul_le_mul_of_nonneg_left (by omega) (by omega)
  have hge : 0 ≤ P * r := Int.mul_nonneg (by omega) (by omega)
  have hn : n = P * 4294967296 * (n / P / 4294967296) + (s + P * r) := by
    have : P * (n / P) = P * 4294967296 * (n / P / 4294967296) + P * r := by
      rw [Int.mul_assoc, ← Int.mul_add, h2]
    omega
  rw [hn, Int.mul_add_emod_self_left, Int.emod_eq_of_lt (by omega) (by omega)]

theorem pow_pos32 (k : Nat) : (0 : Int) < (4294967296 : Int) ^ k := Int.pow_pos (by omega)

theorem pow8 : (4294967296 : Int) ^ 8 = 115792089237316195423570985008687907853269984665640564039457584007913129639936 := by decide

theorem pow_le8 {k : Nat} (h : k ≤ 8) : (4294967296 : Int) ^ k ≤ 115792089237316195423570985008687907853269984665640564039457584007913129639936 := by
  have : k = 0 ∨ k = 1 ∨ k = 2 ∨ k = 3 ∨ k = 4 ∨ k = 5 ∨ k = 6 ∨ k = 7 ∨ k = 8 := by omega
  rcases this with rfl | rfl | rfl | rfl | rfl | rfl | rfl | rfl | rfl <;> decide

end Go.Proofs.Ytmnojgdfbhdkhaa
