/- Contracts of package wide: Sub, mulAdd, MulSmall. Each returns exactly the plain function named here, of the numbers that its arguments denote; below the heap's size the memory is as it was. Conditions: the numbers are of 256 bits, the words of 64. -/
import Derived.Test.YtjlfacdmfcbjfaaWide1
set_option linter.unusedVariables false
namespace Go.Proofs.Ytjlfacdmfcbjfaa
open Go.RowKit

theorem sub_math {a0 a1 a2 a3 b0 b1 b2 b3 s0 s1 s2 s3 c0 c1 c2 c3 n m : Int} (ha3 : 0 ≤ a3) (hb3 : 0 ≤ b3) (hn : n < 115792089237316195423570985008687907853269984665640564039457584007913129639936) (hm0 : 0 ≤ m)
    (ka0 : a0 ≤ 18446744073709551615) (ka1 : a1 ≤ 18446744073709551615) (ka2 : a2 ≤ 18446744073709551615) (ka3 : a3 ≤ 18446744073709551615)
    (hn : n = a0 + 18446744073709551616 * a1 + 340282366920938463463374607431768211456 * a2 + 6277101735386680763835789423207666416102355444464034512896 * a3) (hn1 : n < 115792089237316195423570985008687907853269984665640564039457584007913129639936) (hm : m = b0 + 18446744073709551616 * b1 + 340282366920938463463374607431768211456 * b2 + 6277101735386680763835789423207666416102355444464034512896 * b3)
    (e0 : s0 = (a0 - b0) % 18446744073709551616) (f0 : c0 = -((a0 - b0) / 18446744073709551616)) (e1 : s1 = (a1 - b1 - c0) % 18446744073709551616) (f1 : c1 = -((a1 - b1 - c0) / 18446744073709551616))
    (e2 : s2 = (a2 - b2 - c1) % 18446744073709551616) (f2 : c2 = -((a2 - b2 - c1) / 18446744073709551616)) (e3 : s3 = (a3 - b3 - c2) % 18446744073709551616) (f3 : c3 = -((a3 - b3 - c2) / 18446744073709551616)) (hc : 0 ≤ c3) :
    (c3 = 0 → l0 (subN n m) = s0 ∧ l1 (subN n m) = s1 ∧ l2 (subN n m) = s2 ∧ l3 (subN n m) = s3 ∧ subF n m = 0) ∧
    (c3 ≠ 0 → l0 (subN n m) = 0 ∧ l1 (subN n m) = 0 ∧ l2 (subN n m) = 0 ∧ l3 (subN n m) = 0 ∧ subF n m = 4) := by
  have h : n - m = s0 + 18446744073709551616 * s1 + 340282366920938463463374607431768211456 * s2 + 6277101735386680763835789423207666416102355444464034512896 * s3 - 115792089237316195423570985008687907853269984665640564039457584007913129639936 * c3 := by omega
  have r0 : 0 ≤ s0 ∧ s0 ≤ 18446744073709551615 := by omega
  have r1 : 0 ≤ s1 ∧ s1 ≤ 18446744073709551615 := by omega
  have r2 : 0 ≤ s2 ∧ s2 ≤ 18446744073709551615 := by omega
  have r3 : 0 ≤ s3 ∧ s3 ≤ 18446744073709551615 := by omega
  clear hn hm e0 e1 e2 e3 f0 f1 f2 f3
  constructor
  · intro h0
    obtain ⟨_, p0, p1, p2, p3⟩ := limbs_of r0 r1 r2 r3 (show n - m = _ by rw [h, h0, Int.mul_zero, Int.sub_zero])
    have hle : m ≤ n := by omega
    unfold subN subF
    rw [if_pos hle, if_pos hle]
    exact ⟨p0, p1, p2, p3, rfl⟩
  · intro h0
    have hle : ¬ m ≤ n := by omega
    unfold subN subF
    rw [if_neg hle, if_neg hle]
    exact ⟨limbs_zero.1, limbs_zero.2.1, limbs_zero.2.2.1, limbs_zero.2.2.2, rfl⟩

theorem mad_math {x0 x1 x2 x3 s0 s1 s2 s3 c0 c1 c2 c3 c4 n k : Int} (hc : 0 ≤ c4)
    (hn : n = x0 + 18446744073709551616 * x1 + 340282366920938463463374607431768211456 * x2 + 6277101735386680763835789423207666416102355444464034512896 * x3) (e0 : x0 * k + c0 = s0 + 18446744073709551616 * c1) (e1 : x1 * k + c1 = s1 + 18446744073709551616 * c2) (e2 : x2 * k + c2 = s2 + 18446744073709551616 * c3) (e3 : x3 * k + c3 = s3 + 18446744073709551616 * c4)
    (r0 : 0 ≤ s0 ∧ s0 ≤ 18446744073709551615) (r1 : 0 ≤ s1 ∧ s1 ≤ 18446744073709551615) (r2 : 0 ≤ s2 ∧ s2 ≤ 18446744073709551615) (r3 : 0 ≤ s3 ∧ s3 ≤ 18446744073709551615) :
    (c4 = 0 → l0 (madN n k c0) = s0 ∧ l1 (madN n k c0) = s1 ∧ l2 (madN n k c0) = s2 ∧ l3 (madN n k c0) = s3 ∧ madF n k c0 = 0) ∧
    (c4 ≠ 0 → l0 (madN n k c0) = 0 ∧ l1 (madN n k c0) = 0 ∧ l2 (madN n k c0) = 0 ∧ l3 (madN n k c0) = 0 ∧ madF n k c0 = 4) := by
  have h : n * k + c0 = s0 + 18446744073709551616 * s1 + 340282366920938463463374607431768211456 * s2 + 6277101735386680763835789423207666416102355444464034512896 * s3 + 115792089237316195423570985008687907853269984665640564039457584007913129639936 * c4 := by
    have e : n * k = x0 * k + 18446744073709551616 * (x1 * k) + 340282366920938463463374607431768211456 * (x2 * k) + 6277101735386680763835789423207666416102355444464034512896 * (x3 * k) := by
      rw [hn]; simp only [Int.add_mul, Int.mul_assoc]
    rw [e]
    generalize x0 * k = p0 at *
    generalize x1 * k = p1 at *
    generalize x2 * k = p2 at *
    generalize x3 * k = p3 at *
    omega
  clear hn e0 e1 e2 e3
  unfold madN madF
  generalize n * k + c0 = N at *
  constructor
  · intro h0
    obtain ⟨_, p0, p1, p2, p3⟩ := limbs_of r0 r1 r2 r3 (show N = _ by rw [h, h0, Int.mul_zero, Int.add_zero])
    have hlt : N < 115792089237316195423570985008687907853269984665640564039457584007913129639936 := by omega
    rw [if_pos hlt, if_pos hlt]
    exact ⟨p0, p1, p2, p3, rfl⟩
  · intro h0
    have hlt : ¬ N < 115792089237316195423570985008687907853269984665640564039457584007913129639936 := by omega
    rw [if_neg hlt, if_neg hlt]
    exact ⟨limbs_zero.1, limbs_zero.2.1, limbs_zero.2.2.1, limbs_zero.2.2.2, rfl⟩

end Go.Proofs.Ytjlfacdmfcbjfaa
