/- Contracts of package wide: FromUint64, Add, Sub, mulAdd, MulSmall, DivSmall, cmp.Compare, Compare. Each returns exactly the plain function named here, of the numbers that its arguments denote; below the heap's size the memory is as it was. Conditions: the numbers are of 256 bits, the words of 64. -/
import Derived.Test.YtgleleccmpncnaaDiv
import Derived.Test.YtgleleccmpncnaaWorld
import Derived.Laws.Externs
import Derived.Shelf.Spec.BitsCarry
set_option linter.unusedVariables false
namespace Go.Proofs.Ytgleleccmpncnaa
open Go.RowKit

theorem run_Add64c (x y c : Int) (hx : 0 ≤ x) (hy : 0 ≤ y) (hc : 0 ≤ c) (hc1 : c ≤ 1) (w : World) :
    (callFunc 48 #[.int .u64 x, .int .u64 y, .int .u64 c]).run Try.prog w =
      .ok (.value (.tuple #[.int .u64 ((x + y + c) % 18446744073709551616), .int .u64 ((x + y + c) / 18446744073709551616)])) w := by
  rw [run_callFunc_extern Try.func48 (by kernel_rfl) (by kernel_rfl) (by kernel_rfl) (e := add64Entry) (by kernel_rfl), run_add64 x y c (by omega) (by omega) (by omega) (by omega)]
  simp only [Result.andThen]

/-- Below the heap's size of w, w' is w: the chain of new blocks and stores into them. -/
theorem idx4 (a b c d : Value) :
    (∀ w, (Instr.index 24 (.agg #[a, b, c, d]) (.int .i64 0)).run Try.prog w = .ok a w) ∧ (∀ w, (Instr.index 24 (.agg #[a, b, c, d]) (.int .i64 1)).run Try.prog w = .ok b w) ∧
    (∀ w, (Instr.index 24 (.agg #[a, b, c, d]) (.int .i64 2)).run Try.prog w = .ok c w) ∧ (∀ w, (Instr.index 24 (.agg #[a, b, c, d]) (.int .i64 3)).run Try.prog w = .ok d w) :=
  ⟨fun _ => by kernel_rfl, fun _ => by kernel_rfl, fun _ => by kernel_rfl, fun _ => by kernel_rfl⟩

set_option maxHeartbeats 400000 in
theorem from_any (x : Int) (hx : 0 ≤ x) (hx' : x ≤ 18446744073709551615) (w : World) :
    Calls Try.prog 33 #[.int .u64 x] w fun e w' => e = .returned (.agg #[.int .u64 (l0 (x)), .int .u64 (l1 (x)), .int .u64 (l2 (x)), .int .u64 (l3 (x))]) ∧ Below w.heap.size w w' := by
  have H : (.agg #[.int .u64 (l0 (x)), .int .u64 (l1 (x)), .int .u64 (l2 (x)), .int .u64 (l3 (x))] : Value) = .agg #[.int .u64 x, .int .u64 0, .int .u64 0, .int .u64 0] := by
    apply wd_eq <;> (first | (unfold l0; omega) | (unfold l1; omega) | (unfold l2; omega) | (unfold l3; omega))
  rw [H]
  go_enter Try.func33, Try.ntmps33
  go_wp2_with fail
  refine bodyPost_ret (v := .agg #[.int .u64 x, .int .u64 0, .int .u64 0, .int .u64 0]) (by simp [results, Try.results33, go_sem]) rfl ⟨rfl, ?_⟩
  exact (Below.refl _ _).alloc (Nat.le_refl _) _

theorem add_math {a0 a1 a2 a3 b0 b1 b2 b3 s0 s1 s2 s3 c0 c1 c2 c3 n m : Int} (ha0 : 0 ≤ a0) (ha1 : 0 ≤ a1) (ha2 : 0 ≤ a2) (ha3 : 0 ≤ a3) (hb0 : 0 ≤ b0) (hb1 : 0 ≤ b1) (hb2 : 0 ≤ b2) (hb3 : 0 ≤ b3)
    (hn : n = a0 + 18446744073709551616 * a1 + 340282366920938463463374607431768211456 * a2 + 6277101735386680763835789423207666416102355444464034512896 * a3)
    (hm : m = b0 + 18446744073709551616 * b1 + 340282366920938463463374607431768211456 * b2 + 6277101735386680763835789423207666416102355444464034512896 * b3)
    (e0 : s0 = (a0 + b0) % 18446744073709551616) (f0 : c0 = (a0 + b0) / 18446744073709551616) (e1 : s1 = (a1 + b1 + c0) % 18446744073709551616) (f1 : c1 = (a1 + b1 + c0) / 18446744073709551616)
    (e2 : s2 = (a2 + b2 + c1) % 18446744073709551616) (f2 : c2 = (a2 + b2 + c1) / 18446744073709551616) (e3 : s3 = (a3 + b3 + c2) % 18446744073709551616) (f3 : c3 = (a3 + b3 + c2) / 18446744073709551616) :
    (c3 = 0 → l0 (addN n m) = s0 ∧ l1 (addN n m) = s1 ∧ l2 (addN n m) = s2 ∧ l3 (addN n m) = s3 ∧ addF n m = 0) ∧
    (c3 ≠ 0 → l0 (addN n m) = 0 ∧ l1 (addN n m) = 0 ∧ l2 (addN n m) = 0 ∧ l3 (addN n m) = 0 ∧ addF n m = 4) := by
  have h : n + m = s0 + 18446744073709551616 * s1 + 340282366920938463463374607431768211456 * s2 + 6277101735386680763835789423207666416102355444464034512896 * s3 + 115792089237316195423570985008687907853269984665640564039457584007913129639936 * c3 := by omega
  have r0 : 0 ≤ s0 ∧ s0 ≤ 18446744073709551615 := by omega
  have r1 : 0 ≤ s1 ∧ s1 ≤ 18446744073709551615 := by omega
  have r2 : 0 ≤ s2 ∧ s2 ≤ 18446744073709551615 := by omega
  have r3 : 0 ≤ s3 ∧ s3 ≤ 18446744073709551615 := by omega
  have r4 : 0 ≤ c3 := by omega
  clear hn hm e0 e1 e2 e3 f0 f1 f2 f3
  constructor
  · intro h0
    obtain ⟨_, p0, p1, p2, p3⟩ := limbs_of r0 r1 r2 r3 (show n + m = _ by rw [h, h0, Int.mul_zero, Int.add_zero])
    have hlt : n + m < 115792089237316195423570985008687907853269984665640564039457584007913129639936 := by omega
    unfold addN addF
    rw [if_pos hlt, if_pos hlt]
    exact ⟨p0, p1, p2, p3, rfl⟩
  · intro h0
    have hlt : ¬ n + m < 115792089237316195423570985008687907853269984665640564039457584007913129639936 := by omega
    unfold addN addF
    rw [if_neg hlt, if_neg hlt]
    exact ⟨limbs_zero.1, limbs_zero.2.1, limbs_zero.2.2.1, limbs_zero.2.2.2, rfl⟩

set_option maxHeartbeats 1000000 in
theorem wadd_any (n m : Int) (hn : W256 n) (hm : W256 m) (w : World) :
    Calls Try.prog 32 #[.agg #[.int .u64 (l0 (n)), .int .u64 (l1 (n)), .int .u64 (l2 (n)), .int .u64 (l3 (n))], .agg #[.int .u64 (l0 (m)), .int .u64 (l1 (m)), .int .u64 (l2 (m)), .int .u64 (l3 (m))]] w fun e w' => e = .returned (.tuple #[.agg #[.int .u64 (l0 (addN n m)), .int .u64 (l1 (addN n m)), .int .u64 (l2 (addN n m)), .int .u64 (l3 (addN n m))], .int .i64 (addF n m)]) ∧ Below w.heap.size w w' := by
  obtain ⟨a0, a1, a2, a3, ea0, ea1, ea2, ea3, ha0, ka0, ha1, ka1, ha2, ka2, ha3, ka3, hN⟩ := limbs_ex hn
  obtain ⟨b0, b1, b2, b3, eb0, eb1, eb2, eb3, hb0, kb0, hb1, kb1, hb2, kb2, hb3, kb3, hM⟩ := limbs_ex hm
  rw [ea0, ea1, ea2, ea3, eb0, eb1, eb2, eb3]
  have r0 := run_Add64c a0 b0 0 ha0 hb0 (by omega) (by omega)
  obtain ⟨c0, hc0⟩ : ∃ c, c = (a0 + b0) / 18446744073709551616 := ⟨_, rfl⟩
  obtain ⟨s0, hs0⟩ : ∃ c, c = (a0 + b0) % 18446744073709551616 := ⟨_, rfl⟩
  rw [Int.add_zero, ← hc0, ← hs0] at r0
  have r1 := run_Add64c a1 b1 c0 ha1 hb1 (by omega) (by omega)
  obtain ⟨c1, hc1⟩ : ∃ c, c = (a1 + b1 + c0) / 18446744073709551616 := ⟨_, rfl⟩
  obtain ⟨s1, hs1⟩ : ∃ c, c = (a1 + b1 + c0) % 18446744073709551616 := ⟨_, rfl⟩
  rw [← hc1, ← hs1] at r1
  have r2 := run_Add64c a2 b2 c1 ha2 hb2 (by omega) (by omega)
  obtain ⟨c2, hc2⟩ : ∃ c, c = (a2 + b2 + c1) / 18446744073709551616 := ⟨_, rfl⟩
  obtain ⟨s2, hs2⟩ : ∃ c, c = (a2 + b2 + c1) % 18446744073709551616 := ⟨_, rfl⟩
  rw [← hc2, ← hs2] at r2
  have r3 := run_Add64c a3 b3 c2 ha3 hb3 (by omega) (by omega)
  obtain ⟨c3, hc3⟩ : ∃ c, c = (a3 + b3 + c2) / 18446744073709551616 := ⟨_, rfl⟩
  obtain ⟨s3, hs3⟩ : ∃ c, c = (a3 + b3 + c2) % 18446744073709551616 := ⟨_, rfl⟩
  rw [← hc3, ← hs3] at r3
  have M := Lib.hid (add_math ha0 ha1 ha2 ha3 hb0 hb1 hb2 hb3 hN hM hs0 hc0 hs1 hc1 hs2 hc2 hs3 hc3)
  clear hc0 hc1 hc2 hc3 hs0 hs1 hs2 hs3 ea0 ea1 ea2 ea3 eb0 eb1 eb2 eb3 hN hM
  obtain ⟨i0, i1, i2, i3⟩ := idx4 (.int .u64 b0) (.int .u64 b1) (.int .u64 b2) (.int .u64 b3)
  go_enter Try.func32, Try.ntmps32
  go_wp2_with fail
  refine wp_loop_rounds 5 ?_
  rw [rounds_succ]
  go_wp2_with fail
  rw [rounds_succ]
  go_wp2_with fail
  rw [rounds_succ]
  go_wp2_with fail
  rw [rounds_succ]
  go_wp2_with fail
  rw [rounds_succ]
  go_wp2_with fail
  · obtain ⟨p0, p1, p2, p3, p4⟩ := M.out.2 (by simpa using ‹(c3 != 0) = true›)
    refine bodyPost_ret (v := .tuple #[.agg #[.int .u64 0, .int .u64 0, .int .u64 0, .int .u64 0], .int .i64 4]) (by simp [results, Try.results32, go_sem]) rfl ⟨by rw [p0, p1, p2, p3, p4], ?_⟩
    exact (((Below.refl _ _).alloc (Nat.le_refl _) _).alloc (by simp) _).alloc (by simp; omega) _
  · obtain ⟨p0, p1, p2, p3, p4⟩ := M.out.1 (by simpa using ‹(c3 != 0) = false›)
    refine bodyPost_ret (v := .tuple #[.agg #[.int .u64 s0, .int .u64 s1, .int .u64 s2, .int .u64 s3], .int .i64 0]) (by simp [results, Try.results32, go_sem]) rfl ⟨by rw [p0, p1, p2, p3, p4], ?_⟩
    exact (((Below.refl _ _).alloc (Nat.le_refl _) _).alloc (by simp) _).alloc (by simp; omega) _

end Go.Proofs.Ytgleleccmpncnaa
