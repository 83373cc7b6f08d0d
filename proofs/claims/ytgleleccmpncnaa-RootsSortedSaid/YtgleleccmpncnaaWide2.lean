/- Contracts of package wide: Sub, mulAdd, MulSmall. Each returns exactly the plain function named here, of the numbers that its arguments denote; below the heap's size the memory is as it was. Conditions: the numbers are of 256 bits, the words of 64. -/
import Derived.Test.YtgleleccmpncnaaWide1
set_option linter.unusedVariables false
namespace Go.Proofs.Ytgleleccmpncnaa
open Go.RowKit

theorem sub_math {a0 a1 a2 a3 b0 b1 b2 b3 s0 s1 s2 s3 c0 c1 c2 c3 n m : Int} (ha3 : 0 ≤ a3) (hb3 : 0 ≤ b3) (hn : n < 115792089237316195423570985008687907853269984665640564039457584007913129639936) (hm0 : 0 ≤ m)
    (ka0 : a0 ≤ 18446744073709551615) (ka1 : a1 ≤ 18446744073709551615) (ka2 : a2 ≤ 18446744073709551615) (ka3 : a3 ≤ 18446744073709551615)
    (hn : n = a0 + 18446744073709551616 * a1 + 340282366920938463463374607431768211456 * a2 + 6277101735386680763835789423207666416102355444464034512896 * a3) (hn1 : n < 115792089237316195423570985008687907853269984665640564039457584007913129639936) (hm : m = b0 + 18446744073709551616 * b1 + 340282366920938463463374607431768211456 * b2 + 6277101735386680763835789423207666416102355444464034512896 * b3)
    (e0 : s0 = (a0 - b0) % 18446744073709551616) (f0 : c0 = -((a0 - b0) / 18446744073709551616)) (e1 : s1 = (a1 - b1 - c0) % 18446744073709551616) (f1 : c1 = -((a1 - b1 - c0) / 18446744073709551616))
    (e2 : s2 = (a2 - b2 - c1) % 18446744073709551616) (f2 : c2 = -((a2 - b2 - c1) / 18446744073709551616)) (e3 : s3 = (a3 - b3 - c2) % 18446744073709551616) (f3 : c3 = -((a3 - b3 - c2) / 18446744073709551616)) (hc : 0 ≤ c3) :
    (c3 = 0 → l0 (subN n m) = s0 ∧ l1 (subN n m) = s1 ∧ l2 (subN n m) = s2 ∧ l3 (subN n m) = s3 ∧ subF n m = 0) ∧
    (c3 ≠ 0 → l0 (subN n m) = 0 ∧ l1 (subN n m) = 0 ∧ l2 (subN n m) = 0 ∧ l3 (subN n m) = 0 ∧ subF n m = 4) := by
  have h : n - m = s0 + 18446744073709551616 * s1 + 340282366920938463463374607431768211456 * s2 + 6277101735386680763835789423207666416102355444464034512896 * s3 - 115792089237316195423570985008687907853269984665640564039457584007913129639936 * c3 := by omega
  have r0 : 0 ≤ s0 ∧ s0 ≤ 18446744073709551615 := by omega
  have r1 : 0 ≤ s1 ∧ s1 ≤ 18446744073709551615 := by omega
  have r2 : 0 ≤ s2 ∧ s2 ≤ 18446744073709551615 := by omega
  have r3 : 0 ≤ s3 ∧ s3 ≤ 18446744073709551615 := by omega
  clear hn hm e0 e1 e2 e3 f0 f1 f2 f3
  constructor
  · intro h0
    obtain ⟨_, p0, p1, p2, p3⟩ := limbs_of r0 r1 r2 r3 (show n - m = _ by rw [h, h0, Int.mul_zero, Int.sub_zero])
    have hle : m ≤ n := by omega
    unfold subN subF
    rw [if_pos hle, if_pos hle]
    exact ⟨p0, p1, p2, p3, rfl⟩
  · intro h0
    have hle : ¬ m ≤ n := by omega
    unfold subN subF
    rw [if_neg hle, if_neg hle]
    exact ⟨limbs_zero.1, limbs_zero.2.1, limbs_zero.2.2.1, limbs_zero.2.2.2, rfl⟩

theorem mad_math {x0 x1 x2 x3 s0 s1 s2 s3 c0 c1 c2 c3 c4 n k : Int} (hc : 0 ≤ c4)
    (hn : n = x0 + 18446744073709551616 * x1 + 340282366920938463463374607431768211456 * x2 + 6277101735386680763835789423207666416102355444464034512896 * x3) (e0 : x0 * k + c0 = s0 + 18446744073709551616 * c1) (e1 : x1 * k + c1 = s1 + 18446744073709551616 * c2) (e2 : x2 * k + c2 = s2 + 18446744073709551616 * c3) (e3 : x3 * k + c3 = s3 + 18446744073709551616 * c4)
    (r0 : 0 ≤ s0 ∧ s0 ≤ 18446744073709551615) (r1 : 0 ≤ s1 ∧ s1 ≤ 18446744073709551615) (r2 : 0 ≤ s2 ∧ s2 ≤ 18446744073709551615) (r3 : 0 ≤ s3 ∧ s3 ≤ 18446744073709551615) :
    (c4 = 0 → l0 (madN n k c0) = s0 ∧ l1 (madN n k c0) = s1 ∧ l2 (madN n k c0) = s2 ∧ l3 (madN n k c0) = s3 ∧ madF n k c0 = 0) ∧
    (c4 ≠ 0 → l0 (madN n k c0) = 0 ∧ l1 (madN n k c0) = 0 ∧ l2 (madN n k c0) = 0 ∧ l3 (madN n k c0) = 0 ∧ madF n k c0 = 4) := by
  have h : n * k + c0 = s0 + 18446744073709551616 * s1 + 340282366920938463463374607431768211456 * s2 + 6277101735386680763835789423207666416102355444464034512896 * s3 + 115792089237316195423570985008687907853269984665640564039457584007913129639936 * c4 := by
    have e : n * k = x0 * k + 18446744073709551616 * (x1 * k) + 340282366920938463463374607431768211456 * (x2 * k) + 6277101735386680763835789423207666416102355444464034512896 * (x3 * k) := by
      rw [hn]; simp only [Int.add_mul, Int.mul_assoc]
    rw [e]
    generalize x0 * k = p0 at *
    generalize x1 * k = p1 at *
    generalize x2 * k = p2 at *
    generalize x3 * k = p3 at *
    omega
  clear hn e0 e1 e2 e3
  unfold madN madF
  generalize n * k + c0 = N at *
  constructor
  · intro h0
    obtain ⟨_, p0, p1, p2, p3⟩ := limbs_of r0 r1 r2 r3 (show N = _ by rw [h, h0, Int.mul_zero, Int.add_zero])
    have hlt : N < 115792089237316195423570985008687907853269984665640564039457584007913129639936 := by omega
    rw [if_pos hlt, if_pos hlt]
    exact ⟨p0, p1, p2, p3, rfl⟩
  · intro h0
    have hlt : ¬ N < 115792089237316195423570985008687907853269984665640564039457584007913129639936 := by omega
    rw [if_neg hlt, if_neg hlt]
    exact ⟨limbs_zero.1, limbs_zero.2.1, limbs_zero.2.2.1, limbs_zero.2.2.2, rfl⟩

/-- One limb of the product. -/
theorem mad_step (x k c : Int) (hx : 0 ≤ x) (hx2 : x ≤ 18446744073709551615) (hk : 0 ≤ k) (hk2 : k ≤ 18446744073709551615) (hc : 0 ≤ c) (hc2 : c ≤ 18446744073709551615) :
    ∃ h l s u d : Int, (∀ w, Calls Try.prog 50 #[.int .u64 x, .int .u64 k] w fun e w' => e = .returned (.tuple #[.int .u64 h, .int .u64 l]) ∧ w = w') ∧
      (∀ w, (callFunc 48 #[.int .u64 l, .int .u64 c, .int .u64 0]).run Try.prog w = .ok (.value (.tuple #[.int .u64 s, .int .u64 u])) w) ∧
      IntKind.u64.wrap (h + u) = d ∧ 0 ≤ d ∧ d ≤ 18446744073709551615 ∧ 0 ≤ s ∧ s ≤ 18446744073709551615 ∧ x * k + c = s + 18446744073709551616 * d := by
  have hp : 0 ≤ x * k := Int.mul_nonneg hx hk
  have hp2 : x * k ≤ 18446744073709551615 * 18446744073709551615 := Int.le_trans (Int.mul_le_mul_of_nonneg_right hx2 hk) (Int.mul_le_mul_of_nonneg_left hk2 (by omega))
  have hM : ∀ w, Calls Try.prog 50 #[.int .u64 x, .int .u64 k] w fun e w' => e = .returned (.tuple #[.int .u64 (x * k / 18446744073709551616), .int .u64 (x * k % 18446744073709551616)]) ∧ w = w' := by
    intro w
    obtain ⟨x, rfl⟩ := Int.eq_ofNat_of_zero_le hx
    obtain ⟨k, rfl⟩ := Int.eq_ofNat_of_zero_le hk
    exact (Try.bits_Mul64 x k (by omega) (by omega) w).mono fun e w' h => ⟨h.1, h.2.symm⟩
  refine ⟨_, _, _, _, _, hM, fun w => run_Add64c _ c 0 (by omega) hc (by omega) (by omega) w, rfl, ?_⟩
  rw [IntKind.wrap_u64]
  generalize x * k = p at *
  omega

set_option maxHeartbeats 1000000 in
theorem mad_any (n k c0 : Int) (hn : W256 n) (hk : 0 ≤ k) (hk2 : k ≤ 18446744073709551615) (hc : 0 ≤ c0) (hc2 : c0 ≤ 18446744073709551615) (w : World) :
    Calls Try.prog 36 #[.agg #[.int .u64 (l0 (n)), .int .u64 (l1 (n)), .int .u64 (l2 (n)), .int .u64 (l3 (n))], .int .u64 k, .int .u64 c0] w fun e w' => e = .returned (.tuple #[.agg #[.int .u64 (l0 (madN n k c0)), .int .u64 (l1 (madN n k c0)), .int .u64 (l2 (madN n k c0)), .int .u64 (l3 (madN n k c0))], .int .i64 (madF n k c0)]) ∧ Below w.heap.size w w' := by
  obtain ⟨x0, x1, x2, x3, ex0, ex1, ex2, ex3, hx0, kx0, hx1, kx1, hx2, kx2, hx3, kx3, hN⟩ := limbs_ex hn
  rw [ex0, ex1, ex2, ex3]
  obtain ⟨h0, y0, s0, u0, c1, M0, r0, d0, p0, q0, f0, g0, e0⟩ := mad_step x0 k c0 hx0 kx0 hk hk2 hc hc2
  obtain ⟨h1, y1, s1, u1, c2, M1, r1, d1, p1, q1, f1, g1, e1⟩ := mad_step x1 k c1 hx1 kx1 hk hk2 p0 q0
  obtain ⟨h2, y2, s2, u2, c3, M2, r2, d2, p2, q2, f2, g2, e2⟩ := mad_step x2 k c2 hx2 kx2 hk hk2 p1 q1
  obtain ⟨h3, y3, s3, u3, c4, M3, r3, d3, p3, q3, f3, g3, e3⟩ := mad_step x3 k c3 hx3 kx3 hk hk2 p2 q2
  have M := Lib.hid (mad_math p3 hN e0 e1 e2 e3 ⟨f0, g0⟩ ⟨f1, g1⟩ ⟨f2, g2⟩ ⟨f3, g3⟩)
  have hM0 := Lib.hid M0; clear M0
  have hM1 := Lib.hid M1; clear M1
  have hM2 := Lib.hid M2; clear M2
  have hM3 := Lib.hid M3; clear M3
  clear e0 e1 e2 e3 ex0 ex1 ex2 ex3 hN
  obtain ⟨i0, i1, i2, i3⟩ := idx4 (.int .u64 x0) (.int .u64 x1) (.int .u64 x2) (.int .u64 x3)
  go_enter Try.func36, Try.ntmps36
  go_wp2_with fail
  refine wp_loop_rounds 5 ?_
  rw [rounds_succ]
  go_wp2_with (go_at_call 50; refine (hM0.out _).mono ?_; rintro e w' ⟨rfl, rfl⟩)
  rw [rounds_succ]
  go_wp2_with (go_at_call 50; refine (hM1.out _).mono ?_; rintro e w' ⟨rfl, rfl⟩)
  rw [rounds_succ]
  go_wp2_with (go_at_call 50; refine (hM2.out _).mono ?_; rintro e w' ⟨rfl, rfl⟩)
  rw [rounds_succ]
  go_wp2_with (go_at_call 50; refine (hM3.out _).mono ?_; rintro e w' ⟨rfl, rfl⟩)
  rw [rounds_succ]
  go_wp2_with fail
  · obtain ⟨p0, p1, p2, p3, p4⟩ := M.out.2 (by simpa using ‹(c4 != 0) = true›)
    refine bodyPost_ret (v := .tuple #[.agg #[.int .u64 0, .int .u64 0, .int .u64 0, .int .u64 0], .int .i64 4]) (by simp [results, Try.results36, go_sem]) rfl ⟨by rw [p0, p1, p2, p3, p4], ?_⟩
    exact ((Below.refl _ _).alloc (Nat.le_refl _) _).alloc (by simp) _
  · obtain ⟨p0, p1, p2, p3, p4⟩ := M.out.1 (by simpa using ‹(c4 != 0) = false›)
    refine bodyPost_ret (v := .tuple #[.agg #[.int .u64 s0, .int .u64 s1, .int .u64 s2, .int .u64 s3], .int .i64 0]) (by simp [results, Try.results36, go_sem]) rfl ⟨by rw [p0, p1, p2, p3, p4], ?_⟩
    exact ((Below.refl _ _).alloc (Nat.le_refl _) _).alloc (by simp) _

end Go.Proofs.Ytgleleccmpncnaa
