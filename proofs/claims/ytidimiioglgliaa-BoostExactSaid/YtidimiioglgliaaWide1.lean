/- Contracts of package wide: FromUint64, Add, Sub, mulAdd, MulSmall, DivSmall, cmp.Compare, Compare. Each returns exactly the plain function named here, of the numbers that its arguments denote; below the heap's size the memory is as it was. Conditions: the numbers are of 256 bits, the words of 64. -/
import Derived.Test.YtidimiioglgliaaDiv
import Derived.Test.YtidimiioglgliaaWorld
import Derived.Laws.Externs
import Derived.Shelf.Spec.BitsCarry
set_option linter.unusedVariables false
namespace Go.Proofs.Ytidimiioglgliaa
open Go.RowKit

/-- Below the heap's size of w, w' is w: the chain of new blocks and stores into them. -/
theorem idx4 (a b c d : Value) :
    (∀ w, (Instr.index 26 (.agg #[a, b, c, d]) (.int .i64 0)).run Try.prog w = .ok a w) ∧ (∀ w, (Instr.index 26 (.agg #[a, b, c, d]) (.int .i64 1)).run Try.prog w = .ok b w) ∧
    (∀ w, (Instr.index 26 (.agg #[a, b, c, d]) (.int .i64 2)).run Try.prog w = .ok c w) ∧ (∀ w, (Instr.index 26 (.agg #[a, b, c, d]) (.int .i64 3)).run Try.prog w = .ok d w) :=
  ⟨fun _ => by kernel_rfl, fun _ => by kernel_rfl, fun _ => by kernel_rfl, fun _ => by kernel_rfl⟩

theorem add_math {a0 a1 a2 a3 b0 b1 b2 b3 s0 s1 s2 s3 c0 c1 c2 c3 n m : Int} (ha0 : 0 ≤ a0) (ha1 : 0 ≤ a1) (ha2 : 0 ≤ a2) (ha3 : 0 ≤ a3) (hb0 : 0 ≤ b0) (hb1 : 0 ≤ b1) (hb2 : 0 ≤ b2) (hb3 : 0 ≤ b3)
    (hn : n = a0 + 18446744073709551616 * a1 + 340282366920938463463374607431768211456 * a2 + 6277101735386680763835789423207666416102355444464034512896 * a3)
    (hm : m = b0 + 18446744073709551616 * b1 + 340282366920938463463374607431768211456 * b2 + 6277101735386680763835789423207666416102355444464034512896 * b3)
    (e0 : s0 = (a0 + b0) % 18446744073709551616) (f0 : c0 = (a0 + b0) / 18446744073709551616) (e1 : s1 = (a1 + b1 + c0) % 18446744073709551616) (f1 : c1 = (a1 + b1 + c0) / 18446744073709551616)
    (e2 : s2 = (a2 + b2 + c1) % 18446744073709551616) (f2 : c2 = (a2 + b2 + c1) / 18446744073709551616) (e3 : s3 = (a3 + b3 + c2) % 18446744073709551616) (f3 : c3 = (a3 + b3 + c2) / 18446744073709551616) :
    (c3 = 0 → l0 (addN n m) = s0 ∧ l1 (addN n m) = s1 ∧ l2 (addN n m) = s2 ∧ l3 (addN n m) = s3 ∧ addF n m = 0) ∧
    (c3 ≠ 0 → l0 (addN n m) = 0 ∧ l1 (addN n m) = 0 ∧ l2 (addN n m) = 0 ∧ l3 (addN n m) = 0 ∧ addF n m = 4) := by
  have h : n + m = s0 + 18446744073709551616 * s1 + 340282366920938463463374607431768211456 * s2 + 6277101735386680763835789423207666416102355444464034512896 * s3 + 115792089237316195423570985008687907853269984665640564039457584007913129639936 * c3 := by omega
  have r0 : 0 ≤ s0 ∧ s0 ≤ 18446744073709551615 := by omega
  have r1 : 0 ≤ s1 ∧ s1 ≤ 18446744073709551615 := by omega
  have r2 : 0 ≤ s2 ∧ s2 ≤ 18446744073709551615 := by omega
  have r3 : 0 ≤ s3 ∧ s3 ≤ 18446744073709551615 := by omega
  have r4 : 0 ≤ c3 := by omega
  clear hn hm e0 e1 e2 e3 f0 f1 f2 f3
  constructor
  · intro h0
    obtain ⟨_, p0, p1, p2, p3⟩ := limbs_of r0 r1 r2 r3 (show n + m = _ by rw [h, h0, Int.mul_zero, Int.add_zero])
    have hlt : n + m < 115792089237316195423570985008687907853269984665640564039457584007913129639936 := by omega
    unfold addN addF
    rw [if_pos hlt, if_pos hlt]
    exact ⟨p0, p1, p2, p3, rfl⟩
  · intro h0
    have hlt : ¬ n + m < 115792089237316195423570985008687907853269984665640564039457584007913129639936 := by omega
    unfold addN addF
    rw [if_neg hlt, if_neg hlt]
    exact ⟨limbs_zero.1, limbs_zero.2.1, limbs_zero.2.2.1, limbs_zero.2.2.2, rfl⟩
end Go.Proofs.Ytidimiioglgliaa
