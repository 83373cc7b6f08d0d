/- Contract of wide.DivSmall: quotient and remainder, or ErrZero. -/
import Derived.Test.YtgleleccmpncnaaWide1
set_option linter.unusedVariables false
namespace Go.Proofs.Ytgleleccmpncnaa
open Go.RowKit

theorem div_math {x0 x1 x2 x3 n k q0 q1 q2 q3 r0 r1 r2 r3 : Int} (hk : 0 < k) (hn : n = x0 + 18446744073709551616 * x1 + 340282366920938463463374607431768211456 * x2 + 6277101735386680763835789423207666416102355444464034512896 * x3)
    (hx0 : 0 ≤ x0) (kx0 : x0 ≤ 18446744073709551615) (hx1 : 0 ≤ x1) (kx1 : x1 ≤ 18446744073709551615) (hx2 : 0 ≤ x2) (kx2 : x2 ≤ 18446744073709551615) (hx3 : 0 ≤ x3) (kx3 : x3 ≤ 18446744073709551615)
    (e3 : q3 = x3 / k) (f3 : r3 = x3 % k) (e2 : q2 = (r3 * 18446744073709551616 + x2) / k) (f2 : r2 = (r3 * 18446744073709551616 + x2) % k)
    (e1 : q1 = (r2 * 18446744073709551616 + x1) / k) (f1 : r1 = (r2 * 18446744073709551616 + x1) % k) (e0 : q0 = (r1 * 18446744073709551616 + x0) / k) (f0 : r0 = (r1 * 18446744073709551616 + x0) % k) :
    l0 (n / k) = q0 ∧ l1 (n / k) = q1 ∧ l2 (n / k) = q2 ∧ l3 (n / k) = q3 ∧ n % k = r0 := by
  have step (r x : Int) (hr : 0 ≤ r) (hr2 : r < k) (hx : 0 ≤ x) (hx2 : x ≤ 18446744073709551615) :
      k * ((r * 18446744073709551616 + x) / k) + (r * 18446744073709551616 + x) % k = r * 18446744073709551616 + x ∧ 0 ≤ (r * 18446744073709551616 + x) / k ∧ (r * 18446744073709551616 + x) / k ≤ 18446744073709551615 ∧ 0 ≤ (r * 18446744073709551616 + x) % k ∧ (r * 18446744073709551616 + x) % k < k := by
    refine ⟨Int.mul_ediv_add_emod _ _, Int.ediv_nonneg (by omega) (by omega), ?_, Int.emod_nonneg _ (by omega), Int.emod_lt_of_pos _ hk⟩
    have : (r * 18446744073709551616 + x) / k < 18446744073709551616 := by
      apply Int.ediv_lt_of_lt_mul hk
      have : (r + 1) * 18446744073709551616 ≤ k * 18446744073709551616 := Int.mul_le_mul_of_nonneg_right (by omega) (by omega)
      omega
    omega
  have s3 := step 0 x3 (by omega) hk hx3 kx3
  rw [Int.zero_mul, Int.zero_add, ← e3, ← f3] at s3
  have s2 := step r3 x2 s3.2.2.2.1 s3.2.2.2.2 hx2 kx2
  rw [← e2, ← f2] at s2
  have s1 := step r2 x1 s2.2.2.2.1 s2.2.2.2.2 hx1 kx1
  rw [← e1, ← f1] at s1
  have s0 := step r1 x0 s1.2.2.2.1 s1.2.2.2.2 hx0 kx0
  rw [← e0, ← f0] at s0
  have h : n = k * (q0 + 18446744073709551616 * q1 + 340282366920938463463374607431768211456 * q2 + 6277101735386680763835789423207666416102355444464034512896 * q3) + r0 := by
    have m1 : k * (18446744073709551616 * q1) = 18446744073709551616 * (k * q1) := Int.mul_left_comm _ _ _
    have m2 : k * (340282366920938463463374607431768211456 * q2) = 340282366920938463463374607431768211456 * (k * q2) := Int.mul_left_comm _ _ _
    have m3 : k * (6277101735386680763835789423207666416102355444464034512896 * q3) = 6277101735386680763835789423207666416102355444464034512896 * (k * q3) := Int.mul_left_comm _ _ _
    rw [Int.mul_add, Int.mul_add, Int.mul_add, m1, m2, m3]
    clear e0 e1 e2 e3 f0 f1 f2 f3 m1 m2 m3 step
    generalize k * q0 = z0 at *
    generalize k * q1 = z1 at *
    generalize k * q2 = z2 at *
    generalize k * q3 = z3 at *
    omega
  have hq : n / k = q0 + 18446744073709551616 * q1 + 340282366920938463463374607431768211456 * q2 + 6277101735386680763835789423207666416102355444464034512896 * q3 := by
    rw [h, Int.mul_add_ediv_left _ _ (by omega), Int.ediv_eq_zero_of_lt s0.2.2.2.1 s0.2.2.2.2, Int.add_zero]
  have hr : n % k = r0 := by
    rw [h, Int.mul_add_emod_self_left, Int.emod_eq_of_lt s0.2.2.2.1 s0.2.2.2.2]
  obtain ⟨_, p0, p1, p2, p3⟩ := limbs_of ⟨s0.2.1, s0.2.2.1⟩ ⟨s1.2.1, s1.2.2.1⟩ ⟨s2.2.1, s2.2.2.1⟩ ⟨s3.2.1, s3.2.2.1⟩ hq
  exact ⟨p0, p1, p2, p3, hr⟩

theorem div_step (r x k : Int) (hr : 0 ≤ r) (hrk : r < k) (hk : k ≤ 18446744073709551615) (hx : 0 ≤ x) (hx2 : x ≤ 18446744073709551615) :
    ∃ q s : Int, (∀ w, Calls Try.prog 49 #[.int .u64 r, .int .u64 x, .int .u64 k] w fun e w' => e = .returned (.tuple #[.int .u64 q, .int .u64 s]) ∧ ∃ n, w' = w.drewN n) ∧ q = (r * 18446744073709551616 + x) / k ∧ s = (r * 18446744073709551616 + x) % k ∧ 0 ≤ s ∧ s < k :=
  ⟨_, _, fun w => div64_any r x k w hr hrk hk hx hx2, rfl, rfl, Int.emod_nonneg _ (by omega), Int.emod_lt_of_pos _ (by omega)⟩

/-- The results' form: an array variable and two words. -/
def divE (k : Int) : Int := if k = 0 then 7 else 0
def divQ (n k : Int) : Int := if k = 0 then 0 else n / k
def divR (n k : Int) : Int := if k = 0 then 0 else n % k

set_option maxHeartbeats 1000000 in
theorem div_any (n k : Int) (hn : W256 n) (hk0 : 0 ≤ k) (hk2 : k ≤ 18446744073709551615) (w : World) :
    Calls Try.prog 34 #[.agg #[.int .u64 (l0 (n)), .int .u64 (l1 (n)), .int .u64 (l2 (n)), .int .u64 (l3 (n))], .int .u64 k] w fun e w' => e = .returned (.tuple #[.agg #[.int .u64 (l0 (divQ n k)), .int .u64 (l1 (divQ n k)), .int .u64 (l2 (divQ n k)), .int .u64 (l3 (divQ n k))], .int .u64 (divR n k), .int .i64 (divE k)]) ∧ Below w.heap.size w w' := by
  obtain ⟨x0, x1, x2, x3, ex0, ex1, ex2, ex3, hx0, kx0, hx1, kx1, hx2, kx2, hx3, kx3, hN⟩ := limbs_ex hn
  rw [ex0, ex1, ex2, ex3]
  have ad : ∀ (w : World) (o : Obj) (n : Nat), (w.drewN n).alloc o = (w.alloc o).drewN n := fun _ _ _ => rfl
  have sd : ∀ (w : World) (a : Addr) (v : Value) (n : Nat), (w.drewN n).setCell a v = (w.setCell a v).drewN n := fun _ _ _ _ => rfl
  by_cases hk : k = 0
  · subst hk
    have e1 : divQ n 0 = 0 := rfl
    have e2 : divR n 0 = 0 := rfl
    have e3 : divE 0 = 7 := rfl
    rw [e1, e2, e3]
    go_enter Try.func34, Try.ntmps34
    go_wp2_with fail
    refine bodyPost_ret (v := .tuple #[.agg #[.int .u64 0, .int .u64 0, .int .u64 0, .int .u64 0], .int .u64 0, .int .i64 7]) (by simp [results, Try.results34, go_sem]) rfl ⟨by rw [limbs_zero.1, limbs_zero.2.1, limbs_zero.2.2.1, limbs_zero.2.2.2], ?_⟩
    exact ((Below.refl _ _).alloc (Nat.le_refl _) _).alloc (by simp) _
  · have hkp : 0 < k := by omega
    obtain ⟨q3, r3, D3, e3, f3, g3, h3⟩ := div_step 0 x3 k (by omega) hkp hk2 hx3 kx3
    obtain ⟨q2, r2, D2, e2, f2, g2, h2⟩ := div_step r3 x2 k g3 h3 hk2 hx2 kx2
    obtain ⟨q1, r1, D1, e1, f1, g1, h1⟩ := div_step r2 x1 k g2 h2 hk2 hx1 kx1
    obtain ⟨q0, r0, D0, e0, f0, g0, h0⟩ := div_step r1 x0 k g1 h1 hk2 hx0 kx0
    rw [Int.zero_mul, Int.zero_add] at e3 f3
    have M := div_math hkp hN hx0 kx0 hx1 kx1 hx2 kx2 hx3 kx3 e3 f3 e2 f2 e1 f1 e0 f0
    have z1 : divQ n k = n / k := if_neg hk
    have z2 : divR n k = n % k := if_neg hk
    have z3 : divE k = 0 := if_neg hk
    rw [z1, z2, z3, M.1, M.2.1, M.2.2.1, M.2.2.2.1, M.2.2.2.2]
    clear M z1 z2 z3 e0 e1 e2 e3 f0 f1 f2 f3 ex0 ex1 ex2 ex3 hN
    have hD0 := Lib.hid D0; clear D0
    have hD1 := Lib.hid D1; clear D1
    have hD2 := Lib.hid D2; clear D2
    have hD3 := Lib.hid D3; clear D3
    go_enter Try.func34, Try.ntmps34
    go_wp2_with fail
    refine wp_loop_rounds 5 ?_
    rw [rounds_succ]
    go_wp2_with (go_at_call 49; refine (hD3.out _).mono ?_; rintro e w' ⟨rfl, m3, rfl⟩)
    rw [rounds_succ]
    go_wp2_with (go_at_call 49; refine (hD2.out _).mono ?_; rintro e w' ⟨rfl, m2, rfl⟩)
    rw [rounds_succ]
    go_wp2_with (go_at_call 49; refine (hD1.out _).mono ?_; rintro e w' ⟨rfl, m1, rfl⟩)
    rw [rounds_succ]
    go_wp2_with (go_at_call 49; refine (hD0.out _).mono ?_; rintro e w' ⟨rfl, m0, rfl⟩)
    rw [rounds_succ]
    go_wp2_with fail
    refine bodyPost_ret (v := .tuple #[.agg #[.int .u64 q0, .int .u64 q1, .int .u64 q2, .int .u64 q3], .int .u64 r0, .int .i64 0]) (by simp [results, Try.results34, go_sem]) rfl ⟨rfl, ?_⟩
    exact (((Below.refl _ _).alloc (Nat.le_refl _) _).alloc (by simp) _).trans ⟨rfl, rfl, rfl, Nat.le_refl _, fun _ _ => rfl⟩

end Go.Proofs.Ytgleleccmpncnaa
