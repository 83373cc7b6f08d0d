/- Contract of wide.DivSmall: quotient and remainder, or ErrZero. -/
import Derived.Test.YtjlfacdmfcbjfaaWide1
set_option linter.unusedVariables false
namespace Go.Proofs.Ytjlfacdmfcbjfaa
open Go.RowKit

theorem div_math {x0 x1 x2 x3 n k q0 q1 q2 q3 r0 r1 r2 r3 : Int} (hk : 0 < k) (hn : n = x0 + 18446744073709551616 * x1 + 340282366920938463463374607431768211456 * x2 + 6277101735386680763835789423207666416102355444464034512896 * x3)
    (hx0 : 0 ≤ x0) (kx0 : x0 ≤ 18446744073709551615) (hx1 : 0 ≤ x1) (kx1 : x1 ≤ 18446744073709551615) (hx2 : 0 ≤ x2) (kx2 : x2 ≤ 18446744073709551615) (hx3 : 0 ≤ x3) (kx3 : x3 ≤ 18446744073709551615)
    (e3 : q3 = x3 / k) (f3 : r3 = x3 % k) (e2 : q2 = (r3 * 18446744073709551616 + x2) / k) (f2 : r2 = (r3 * 18446744073709551616 + x2) % k)
    (e1 : q1 = (r2 * 18446744073709551616 + x1) / k) (f1 : r1 = (r2 * 18446744073709551616 + x1) % k) (e0 : q0 = (r1 * 18446744073709551616 + x0) / k) (f0 : r0 = (r1 * 18446744073709551616 + x0) % k) :
    l0 (n / k) = q0 ∧ l1 (n / k) = q1 ∧ l2 (n / k) = q2 ∧ l3 (n / k) = q3 ∧ n % k = r0 := by
  have step (r x : Int) (hr : 0 ≤ r) (hr2 : r < k) (hx : 0 ≤ x) (hx2 : x ≤ 18446744073709551615) :
      k * ((r * 18446744073709551616 + x) / k) + (r * 18446744073709551616 + x) % k = r * 18446744073709551616 + x ∧ 0 ≤ (r * 18446744073709551616 + x) / k ∧ (r * 18446744073709551616 + x) / k ≤ 18446744073709551615 ∧ 0 ≤ (r * 18446744073709551616 + x) % k ∧ (r * 18446744073709551616 + x) % k < k := by
    refine ⟨Int.mul_ediv_add_emod _ _, Int.ediv_nonneg (by omega) (by omega), ?_, Int.emod_nonneg _ (by omega), Int.emod_lt_of_pos _ hk⟩
    have : (r * 18446744073709551616 + x) / k < 18446744073709551616 := by
      apply Int.ediv_lt_of_lt_mul hk
      have : (r + 1) * 18446744073709551616 ≤ k * 18446744073709551616 := Int.mul_le_mul_of_nonneg_right (by omega) (by omega)
      omega
    omega
  have s3 := step 0 x3 (by omega) hk hx3 kx3
  rw [Int.zero_mul, Int.zero_add, ← e3, ← f3] at s3
  have s2 := step r3 x2 s3.2.2.2.1 s3.2.2.2.2 hx2 kx2
  rw [← e2, ← f2] at s2
  have s1 := step r2 x1 s2.2.2.2.1 s2.2.2.2.2 hx1 kx1
  rw [← e1, ← f1] at s1
  have s0 := step r1 x0 s1.2.2.2.1 s1.2.2.2.2 hx0 kx0
  rw [← e0, ← f0] at s0
  have h : n = k * (q0 + 18446744073709551616 * q1 + 340282366920938463463374607431768211456 * q2 + 6277101735386680763835789423207666416102355444464034512896 * q3) + r0 := by
    have m1 : k * (18446744073709551616 * q1) = 18446744073709551616 * (k * q1) := Int.mul_left_comm _ _ _
    have m2 : k * (340282366920938463463374607431768211456 * q2) = 340282366920938463463374607431768211456 * (k * q2) := Int.mul_left_comm _ _ _
    have m3 : k * (6277101735386680763835789423207666416102355444464034512896 * q3) = 6277101735386680763835789423207666416102355444464034512896 * (k * q3) := Int.mul_left_comm _ _ _
    rw [Int.mul_add, Int.mul_add, Int.mul_add, m1, m2, m3]
    clear e0 e1 e2 e3 f0 f1 f2 f3 m1 m2 m3 step
    generalize k * q0 = z0 at *
    generalize k * q1 = z1 at *
    generalize k * q2 = z2 at *
    generalize k * q3 = z3 at *
    omega
  have hq : n / k = q0 + 18446744073709551616 * q1 + 340282366920938463463374607431768211456 * q2 + 6277101735386680763835789423207666416102355444464034512896 * q3 := by
    rw [h, Int.mul_add_ediv_left _ _ (by omega), Int.ediv_eq_zero_of_lt s0.2.2.2.1 s0.2.2.2.2, Int.add_zero]
  have hr : n % k = r0 := by
    rw [h, Int.mul_add_emod_self_left, Int.emod_eq_of_lt s0.2.2.2.1 s0.2.2.2.2]
  obtain ⟨_, p0, p1, p2, p3⟩ := limbs_of ⟨s0.2.1, s0.2.2.1⟩ ⟨s1.2.1, s1.2.2.1⟩ ⟨s2.2.1, s2.2.2.1⟩ ⟨s3.2.1, s3.2.2.1⟩ hq
  exact ⟨p0, p1, p2, p3, hr⟩

/-- The results' form: an array variable and two words. -/
def divE (k : Int) : Int := if k = 0 then 7 else 0
def divQ (n k : Int) : Int := if k = 0 then 0 else n / k
def divR (n k : Int) : Int := if k = 0 then 0 else n % k

end Go.Proofs.Ytjlfacdmfcbjfaa
