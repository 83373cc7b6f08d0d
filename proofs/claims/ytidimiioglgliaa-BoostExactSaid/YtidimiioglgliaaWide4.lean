/- Contracts of cmp.Compare at uint64, wide.Compare and the reference's Compare: -1, 0 or 1 as the numbers are ordered. -/
import Derived.Test.YtidimiioglgliaaWide1
set_option linter.unusedVariables false
namespace Go.Proofs.Ytidimiioglgliaa
open Go.RowKit

theorem cmpN_cases (x y : Int) : (x < y ∧ cmpN x y = -1) ∨ (y < x ∧ cmpN x y = 1) ∨ (x = y ∧ cmpN x y = 0) := by
  unfold cmpN; split
  · exact .inl ⟨by assumption, rfl⟩
  · split
    · exact .inr (.inl ⟨by assumption, rfl⟩)
    · exact .inr (.inr ⟨by omega, rfl⟩)

theorem cmp_math {a0 a1 a2 a3 b0 b1 b2 b3 n m : Int} (ha0 : 0 ≤ a0) (ha1 : 0 ≤ a1) (ha2 : 0 ≤ a2) (ha3 : 0 ≤ a3) (hb0 : 0 ≤ b0) (hb1 : 0 ≤ b1) (hb2 : 0 ≤ b2) (hb3 : 0 ≤ b3)
    (ka0 : a0 ≤ 18446744073709551615) (ka1 : a1 ≤ 18446744073709551615) (ka2 : a2 ≤ 18446744073709551615) (ka3 : a3 ≤ 18446744073709551615) (kb0 : b0 ≤ 18446744073709551615) (kb1 : b1 ≤ 18446744073709551615) (kb2 : b2 ≤ 18446744073709551615) (kb3 : b3 ≤ 18446744073709551615)
    (hn : n = a0 + 18446744073709551616 * a1 + 340282366920938463463374607431768211456 * a2 + 6277101735386680763835789423207666416102355444464034512896 * a3)
    (hm : m = b0 + 18446744073709551616 * b1 + 340282366920938463463374607431768211456 * b2 + 6277101735386680763835789423207666416102355444464034512896 * b3) :
    (a3 ≠ b3 ∧ cmpN n m = cmpN a3 b3) ∨ (a3 = b3 ∧ a2 ≠ b2 ∧ cmpN n m = cmpN a2 b2) ∨ (a3 = b3 ∧ a2 = b2 ∧ a1 ≠ b1 ∧ cmpN n m = cmpN a1 b1) ∨ (a3 = b3 ∧ a2 = b2 ∧ a1 = b1 ∧ cmpN n m = cmpN a0 b0) := by
  have same (p q r s : Int) (h : p < q ↔ r < s) (k : q < p ↔ s < r) : cmpN p q = cmpN r s := by simp only [cmpN, h, k]
  by_cases h3 : a3 = b3
  · by_cases h2 : a2 = b2
    · by_cases h1 : a1 = b1
      · exact .inr (.inr (.inr ⟨h3, h2, h1, same _ _ _ _ (by omega) (by omega)⟩))
      · exact .inr (.inr (.inl ⟨h3, h2, h1, same _ _ _ _ (by omega) (by omega)⟩))
    · exact .inr (.inl ⟨h3, h2, same _ _ _ _ (by omega) (by omega)⟩)
  · exact .inl ⟨h3, same _ _ _ _ (by omega) (by omega)⟩

theorem cmpN_same (x : Int) : cmpN x x = 0 := by unfold cmpN; rw [if_neg (by omega), if_neg (by omega)]

set_option maxHeartbeats 1000000 in
theorem rcmp_any (n m : Int) (hn : W256 n) (hm : W256 m) (w : World) :
    Calls Try.prog 11 #[.agg #[.int .u64 (l0 (n)), .int .u64 (l1 (n)), .int .u64 (l2 (n)), .int .u64 (l3 (n))], .agg #[.int .u64 (l0 (m)), .int .u64 (l1 (m)), .int .u64 (l2 (m)), .int .u64 (l3 (m))]] w fun e w' => e = .returned (.int .i64 (cmpN n m)) ∧ Below w.heap.size w w' := by
  obtain ⟨a0, a1, a2, a3, ea0, ea1, ea2, ea3, ha0, ka0, ha1, ka1, ha2, ka2, ha3, ka3, hN⟩ := limbs_ex hn
  obtain ⟨b0, b1, b2, b3, eb0, eb1, eb2, eb3, hb0, kb0, hb1, kb1, hb2, kb2, hb3, kb3, hM⟩ := limbs_ex hm
  rw [ea0, ea1, ea2, ea3, eb0, eb1, eb2, eb3]
  have M := cmp_math ha0 ha1 ha2 ha3 hb0 hb1 hb2 hb3 ka0 ka1 ka2 ka3 kb0 kb1 kb2 kb3 hN hM
  clear ea0 ea1 ea2 ea3 eb0 eb1 eb2 eb3 hN hM
  have same : ∀ x, cmpN x x = 0 := cmpN_same
  rcases M with ⟨h3, M⟩ | ⟨rfl, h2, M⟩ | ⟨rfl, rfl, h1, M⟩ | ⟨rfl, rfl, rfl, M⟩
  · rw [M]; clear M
    rcases cmpN_cases a3 b3 with ⟨h, e⟩ | ⟨h, e⟩ | ⟨h, e⟩
    · rw [e]
      go_enter Try.func11, Try.ntmps11
      go_wp2_with fail
      refine wp_loop_rounds 5 ?_
      rw [rounds_succ]
      go_wp2_with fail
      go_quiet (fail)
      go_wp2_with fail
      go_ret
      exact ⟨by first | rfl | exact ret_int e, (((Below.refl _ _).alloc (Nat.le_refl _) _).alloc (by simp) _).trans ⟨rfl, rfl, rfl, Nat.le_refl _, fun _ _ => rfl⟩⟩
    · rw [e]
      go_enter Try.func11, Try.ntmps11
      go_wp2_with fail
      refine wp_loop_rounds 5 ?_
      rw [rounds_succ]
      go_wp2_with fail
      go_quiet (fail)
      go_wp2_with fail
      go_quiet (fail)
      go_wp2_with fail
      go_ret
      exact ⟨by first | rfl | exact ret_int e, (((Below.refl _ _).alloc (Nat.le_refl _) _).alloc (by simp) _).trans ⟨rfl, rfl, rfl, Nat.le_refl _, fun _ _ => rfl⟩⟩
    · exact absurd h h3
  · rw [M]; clear M
    rcases cmpN_cases a2 b2 with ⟨h, e⟩ | ⟨h, e⟩ | ⟨h, e⟩
    · rw [e]
      go_enter Try.func11, Try.ntmps11
      go_wp2_with fail
      refine wp_loop_rounds 5 ?_
      rw [rounds_succ]
      go_wp2_with fail
      go_quiet (fail)
      go_wp2_with fail
      go_quiet (fail)
      go_wp2_with fail
      rw [rounds_succ]
      go_wp2_with fail
      go_quiet (fail)
      go_wp2_with fail
      go_ret
      exact ⟨by first | rfl | exact ret_int e, (((Below.refl _ _).alloc (Nat.le_refl _) _).alloc (by simp) _).trans ⟨rfl, rfl, rfl, Nat.le_refl _, fun _ _ => rfl⟩⟩
    · rw [e]
      go_enter Try.func11, Try.ntmps11
      go_wp2_with fail
      refine wp_loop_rounds 5 ?_
      rw [rounds_succ]
      go_wp2_with fail
      go_quiet (fail)
      go_wp2_with fail
      go_quiet (fail)
      go_wp2_with fail
      rw [rounds_succ]
      go_wp2_with fail
      go_quiet (fail)
      go_wp2_with fail
      go_quiet (fail)
      go_wp2_with fail
      go_ret
      exact ⟨by first | rfl | exact ret_int e, (((Below.refl _ _).alloc (Nat.le_refl _) _).alloc (by simp) _).trans ⟨rfl, rfl, rfl, Nat.le_refl _, fun _ _ => rfl⟩⟩
    · exact absurd h h2
  · rw [M]; clear M
    rcases cmpN_cases a1 b1 with ⟨h, e⟩ | ⟨h, e⟩ | ⟨h, e⟩
    · rw [e]
      go_enter Try.func11, Try.ntmps11
      go_wp2_with fail
      refine wp_loop_rounds 5 ?_
      rw [rounds_succ]
      go_wp2_with fail
      go_quiet (fail)
      go_wp2_with fail
      go_quiet (fail)
      go_wp2_with fail
      rw [rounds_succ]
      go_wp2_with fail
      go_quiet (fail)
      go_wp2_with fail
      go_quiet (fail)
      go_wp2_with fail
      rw [rounds_succ]
      go_wp2_with fail
      go_quiet (fail)
      go_wp2_with fail
      go_ret
      exact ⟨by first | rfl | exact ret_int e, (((Below.refl _ _).alloc (Nat.le_refl _) _).alloc (by simp) _).trans ⟨rfl, rfl, rfl, Nat.le_refl _, fun _ _ => rfl⟩⟩
    · rw [e]
      go_enter Try.func11, Try.ntmps11
      go_wp2_with fail
      refine wp_loop_rounds 5 ?_
      rw [rounds_succ]
      go_wp2_with fail
      go_quiet (fail)
      go_wp2_with fail
      go_quiet (fail)
      go_wp2_with fail
      rw [rounds_succ]
      go_wp2_with fail
      go_quiet (fail)
      go_wp2_with fail
      go_quiet (fail)
      go_wp2_with fail
      rw [rounds_succ]
      go_wp2_with fail
      go_quiet (fail)
      go_wp2_with fail
      go_quiet (fail)
      go_wp2_with fail
      go_ret
      exact ⟨by first | rfl | exact ret_int e, (((Below.refl _ _).alloc (Nat.le_refl _) _).alloc (by simp) _).trans ⟨rfl, rfl, rfl, Nat.le_refl _, fun _ _ => rfl⟩⟩
    · exact absurd h h1
  · rw [M]; clear M
    rcases cmpN_cases a0 b0 with ⟨h, e⟩ | ⟨h, e⟩ | ⟨h, e⟩
    · rw [e]
      go_enter Try.func11, Try.ntmps11
      go_wp2_with fail
      refine wp_loop_rounds 5 ?_
      rw [rounds_succ]
      go_wp2_with fail
      go_quiet (fail)
      go_wp2_with fail
      go_quiet (fail)
      go_wp2_with fail
      rw [rounds_succ]
      go_wp2_with fail
      go_quiet (fail)
      go_wp2_with fail
      go_quiet (fail)
      go_wp2_with fail
      rw [rounds_succ]
      go_wp2_with fail
      go_quiet (fail)
      go_wp2_with fail
      go_quiet (fail)
      go_wp2_with fail
      rw [rounds_succ]
      go_wp2_with fail
      go_quiet (fail)
      go_wp2_with fail
      go_ret
      exact ⟨by first | rfl | exact ret_int e, (((Below.refl _ _).alloc (Nat.le_refl _) _).alloc (by simp) _).trans ⟨rfl, rfl, rfl, Nat.le_refl _, fun _ _ => rfl⟩⟩
    · rw [e]
      go_enter Try.func11, Try.ntmps11
      go_wp2_with fail
      refine wp_loop_rounds 5 ?_
      rw [rounds_succ]
      go_wp2_with fail
      go_quiet (fail)
      go_wp2_with fail
      go_quiet (fail)
      go_wp2_with fail
      rw [rounds_succ]
      go_wp2_with fail
      go_quiet (fail)
      go_wp2_with fail
      go_quiet (fail)
      go_wp2_with fail
      rw [rounds_succ]
      go_wp2_with fail
      go_quiet (fail)
      go_wp2_with fail
      go_quiet (fail)
      go_wp2_with fail
      rw [rounds_succ]
      go_wp2_with fail
      go_quiet (fail)
      go_wp2_with fail
      go_quiet (fail)
      go_wp2_with fail
      go_ret
      exact ⟨by first | rfl | exact ret_int e, (((Below.refl _ _).alloc (Nat.le_refl _) _).alloc (by simp) _).trans ⟨rfl, rfl, rfl, Nat.le_refl _, fun _ _ => rfl⟩⟩
    · rw [e]
      subst h
      go_enter Try.func11, Try.ntmps11
      go_wp2_with fail
      refine wp_loop_rounds 5 ?_
      rw [rounds_succ]
      go_wp2_with fail
      go_quiet (fail)
      go_wp2_with fail
      go_quiet (fail)
      go_wp2_with fail
      rw [rounds_succ]
      go_wp2_with fail
      go_quiet (fail)
      go_wp2_with fail
      go_quiet (fail)
      go_wp2_with fail
      rw [rounds_succ]
      go_wp2_with fail
      go_quiet (fail)
      go_wp2_with fail
      go_quiet (fail)
      go_wp2_with fail
      rw [rounds_succ]
      go_wp2_with fail
      go_quiet (fail)
      go_wp2_with fail
      go_quiet (fail)
      go_wp2_with fail
      rw [rounds_succ]
      go_wp2_with fail
      go_ret
      exact ⟨by first | rfl | exact ret_int e, (((Below.refl _ _).alloc (Nat.le_refl _) _).alloc (by simp) _).trans ⟨rfl, rfl, rfl, Nat.le_refl _, fun _ _ => rfl⟩⟩
end Go.Proofs.Ytidimiioglgliaa
