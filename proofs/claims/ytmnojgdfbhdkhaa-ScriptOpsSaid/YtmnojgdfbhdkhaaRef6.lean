/- Contract of the reference's bit: bit i of a number. -/
import Derived.Test.YtmnojgdfbhdkhaaRef0
import Derived.Test.YtmnojgdfbhdkhaaEq
set_option linter.unusedVariables false
namespace Go.Proofs.Ytmnojgdfbhdkhaa
open Go.RowKit

theorem and1 (x : Int) (h0 : 0 ≤ x) (h : x < 18446744073709551616) : bits .and .u64 x 1 = x % 2 := by
  obtain ⟨a, rfl⟩ := Int.eq_ofNat_of_zero_le h0
  have := bits_and_u64_nat a 1 (by omega) (by omega)
  rw [show ((1 : Nat) : Int) = 1 from rfl] at this
  rw [this, Nat.and_one_is_mod]
  simp

theorem pow_pos2 (k : Nat) : (0 : Int) < (2 : Int) ^ k := Int.pow_pos (by omega)

theorem pow_split {t : Nat} (ht : t < 64) : (18446744073709551616 : Int) = (2 : Int) ^ t * ((2 : Int) ^ (63 - t) * 2) := by
  rw [← Int.pow_succ, ← Int.pow_add, show t + (63 - t + 1) = 64 by omega]; rfl

theorem low_bit (m : Int) (t : Nat) (ht : t < 64) : m % 18446744073709551616 / (2 : Int) ^ t % 2 = m / (2 : Int) ^ t % 2 := by
  have hB := pow_split ht
  have hp := pow_pos2 t
  have h := Int.mul_ediv_add_emod m 18446744073709551616
  generalize (2 : Int) ^ t = P at *
  generalize (2 : Int) ^ (63 - t) = Q at *
  have e : m / P = (m % 18446744073709551616) / P + Q * 2 * (m / 18446744073709551616) := by
    conv => lhs; rw [← h, Int.add_comm, hB, Int.mul_assoc P, Int.add_mul_ediv_left _ _ (by omega)]
    rw [hB]
  rw [e, show Q * 2 * (m / 18446744073709551616) = 2 * (Q * (m / 18446744073709551616)) by rw [Int.mul_comm Q, Int.mul_assoc], Int.add_mul_emod_self_left]

/-- Bit i. -/
def bitN (n : Int) (i : Nat) : Int := n / (2 : Int) ^ i % 2

theorem bitN_rng (n : Int) (i : Nat) : 0 ≤ bitN n i ∧ bitN n i ≤ 1 := by unfold bitN; omega

theorem div_le_self' (x : Int) (t : Nat) (h : 0 ≤ x) : 0 ≤ x / (2 : Int) ^ t ∧ x / (2 : Int) ^ t ≤ x := ⟨Int.ediv_nonneg h (Int.le_of_lt (pow_pos2 t)), Int.ediv_le_self _ h⟩

end Go.Proofs.Ytmnojgdfbhdkhaa
