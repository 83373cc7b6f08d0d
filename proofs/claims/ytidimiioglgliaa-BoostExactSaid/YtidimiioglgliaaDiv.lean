/- Contract of math/bits.Div64 (compiled from its Go body): quotient and remainder of two words by one, where the high word is below the divisor. -/
import Derived.Test.YtidimiioglgliaaMath
import Derived.Test.YtidimiioglgliaaShelf
import Derived.BigQuiet
import Derived.Deep.QuietTactic
set_option linter.unusedVariables false
namespace Go.Proofs.Ytidimiioglgliaa
open Go.RowKit

/-- The dividend, shifted. -/
theorem shifted {h l y : Int} {s : Nat} (h0 : 0 ≤ h) (hy : h < y) (hl : 0 ≤ l) (hl2 : l ≤ 18446744073709551615) (hs : s ≤ 63) (hV : y * (2 : Int) ^ s < 18446744073709551616) :
    ∃ H U1 U0 : Int, IntKind.u64.wrap (h * 2 ^ s) = H ∧ bits .or .u64 H (l / 2 ^ (64 - s)) = U1 ∧ IntKind.u64.wrap (l * 2 ^ s) = U0 ∧ 0 ≤ U1 ∧ U1 < y * 2 ^ s ∧ 0 ≤ U0 ∧ U0 < 18446744073709551616 ∧
      U1 * 18446744073709551616 + U0 = (h * 18446744073709551616 + l) * 2 ^ s := by
  obtain ⟨h, rfl⟩ := Int.eq_ofNat_of_zero_le h0
  obtain ⟨l, rfl⟩ := Int.eq_ofNat_of_zero_le hl
  obtain ⟨y, rfl⟩ := Int.eq_ofNat_of_zero_le (show 0 ≤ y by omega)
  have c (x : Nat) : (x : Int) * (2 : Int) ^ s = ((x * 2 ^ s : Nat) : Int) := by rw [Int.natCast_mul, Int.natCast_pow]; rfl
  have c2 : (l : Int) / (2 : Int) ^ (64 - s) = ((l / 2 ^ (64 - s) : Nat) : Int) := by rw [Int.natCast_ediv, Int.natCast_pow]; rfl
  have hp : 2 ^ s * 2 ^ (64 - s) = 18446744073709551616 := by
    rw [← Nat.pow_add, show s + (64 - s) = 64 by omega]
  have hpos := Nat.two_pow_pos s
  have hpos2 := Nat.two_pow_pos (64 - s)
  have hlow : l / 2 ^ (64 - s) < 2 ^ s := by
    rw [Nat.div_lt_iff_lt_mul hpos2, hp]; omega
  have hhy : (h + 1) * 2 ^ s ≤ y * 2 ^ s := Nat.mul_le_mul_right _ (by omega)
  rw [Nat.add_mul, Nat.one_mul] at hhy
  rw [c y] at hV
  have eH : IntKind.u64.wrap ((h : Int) * 2 ^ s) = ((h * 2 ^ s : Nat) : Int) := by
    rw [c h, u64_wrap (by omega) (by omega)]
  have eO : bits .or .u64 ((h * 2 ^ s : Nat) : Int) ((l : Int) / 2 ^ (64 - s)) = ((h * 2 ^ s + l / 2 ^ (64 - s) : Nat) : Int) := by
    rw [c2, or_low s h _ hlow (by omega)]
  have hlt : h * 2 ^ s + l / 2 ^ (64 - s) < y * 2 ^ s := by
    generalize l / 2 ^ (64 - s) = q at *
    generalize h * 2 ^ s = t at *
    generalize y * 2 ^ s = t' at *
    omega
  have e1 : ((h : Int) * 18446744073709551616 + l) = ((h * 18446744073709551616 + l : Nat) : Int) := by omega
  have e2 : l * 2 ^ s / 18446744073709551616 = l / 2 ^ (64 - s) := by
    rw [← hp, Nat.mul_comm l, Nat.mul_div_mul_left _ _ hpos]
  have e3 : (h * 18446744073709551616 + l) * 2 ^ s = h * 2 ^ s * 18446744073709551616 + l * 2 ^ s := by
    rw [Nat.add_mul, Nat.mul_right_comm]
  refine ⟨((h * 2 ^ s : Nat) : Int), ((h * 2 ^ s + l / 2 ^ (64 - s) : Nat) : Int), IntKind.u64.wrap ((l : Int) * 2 ^ s), eH, eO, rfl, Int.natCast_nonneg _, by rw [c y]; exact Int.ofNat_lt.2 hlt, ?_, ?_, ?_⟩
  · rw [IntKind.wrap_u64]; exact Int.emod_nonneg _ (by omega)
  · rw [IntKind.wrap_u64]; exact Int.emod_lt_of_pos _ (by omega)
  · rw [IntKind.wrap_u64, c l, e1, c, e3, ← e2]
    clear eH eO e1 e2 e3 hlt hlow hhy hV
    generalize l * 2 ^ s = z
    generalize h * 2 ^ s = t
    omega

/-- The two digits together. -/
theorem together {h l y V U1 U0 d1 d0 Q1 Q0 R1 R0 : Int} {s : Nat} (hy : 0 < y) (hV : V = y * 2 ^ s) (hU : U1 * 18446744073709551616 + U0 = (h * 18446744073709551616 + l) * 2 ^ s)
    (hd : U0 = d1 * 4294967296 + d0) (hQ1 : Q1 = (U1 * 4294967296 + d1) / V) (hR1 : R1 = (U1 * 4294967296 + d1) % V) (hQ0 : Q0 = (R1 * 4294967296 + d0) / V) (hR0 : R0 = (R1 * 4294967296 + d0) % V) :
    Q1 * 4294967296 + Q0 = (h * 18446744073709551616 + l) / y ∧ R0 / 2 ^ s = (h * 18446744073709551616 + l) % y := by
  have hp : (0 : Int) < 2 ^ s := Int.pow_pos (by omega)
  have hVp : 0 < V := by rw [hV]; exact Int.mul_pos hy hp
  generalize h * 18446744073709551616 + l = N at *
  have e1 := Int.mul_ediv_add_emod (U1 * 4294967296 + d1) V
  rw [← hQ1, ← hR1] at e1
  have e0 := Int.mul_ediv_add_emod (R1 * 4294967296 + d0) V
  rw [← hQ0, ← hR0] at e0
  have hlt : R0 < V := by rw [hR0]; exact Int.emod_lt_of_pos _ hVp
  have hge : 0 ≤ R0 := by rw [hR0]; exact Int.emod_nonneg _ (by omega)
  have e : N * 2 ^ s = V * (Q1 * 4294967296 + Q0) + R0 := by
    rw [Int.mul_add, ← Int.mul_assoc]
    generalize V * Q1 = p1 at *
    generalize V * Q0 = p0 at *
    generalize N * 2 ^ s = T at *
    omega
  have hq : N * 2 ^ s / V = Q1 * 4294967296 + Q0 := by
    rw [e, Int.mul_add_ediv_left _ _ (by omega), Int.ediv_eq_zero_of_lt hge hlt, Int.add_zero]
  have hr : N * 2 ^ s % V = R0 := by
    rw [e, Int.mul_add_emod_self_left, Int.emod_eq_of_lt hge hlt]
  rw [hV, Int.mul_ediv_mul_of_pos_left _ _ hp] at hq
  rw [hV, Int.mul_comm N, Int.mul_comm y, Int.mul_emod_mul_of_pos _ _ hp] at hr
  exact ⟨hq.symm, by rw [← hr, Int.mul_ediv_cancel_left _ (by omega)]⟩
end Go.Proofs.Ytidimiioglgliaa
