/- Contract of the reference's AddWide. -/
import Derived.Test.YtidimiioglgliaaRef0
set_option linter.unusedVariables false
namespace Go.Proofs.Ytidimiioglgliaa
open Go.RowKit

/-- What stands at the loop's head: k half limbs are done. -/
def AddI (w : World) (n m : Int) (c i : Value) (wr : World) : Prop :=
  ∃ (k : Nat) (cv s : Int), k ≤ 8 ∧ i = .int .i64 k ∧ c = .int .u64 cv ∧ 0 ≤ cv ∧ cv ≤ 1 ∧ 0 ≤ s ∧ s < (4294967296 : Int) ^ k ∧ s + (4294967296 : Int) ^ k * cv = n % (4294967296 : Int) ^ k + m % (4294967296 : Int) ^ k ∧
    Below w.heap.size w wr ∧ w.heap.size + 4 ≤ wr.heap.size ∧ Blk wr w.heap.size #[.int .u64 (l0 n), .int .u64 (l1 n), .int .u64 (l2 n), .int .u64 (l3 n)] ∧
    Blk wr (w.heap.size + 1) #[.int .u64 (l0 m), .int .u64 (l1 m), .int .u64 (l2 m), .int .u64 (l3 m)] ∧ Blk wr (w.heap.size + 1 + 1) #[.int .u64 0, .int .u64 0, .int .u64 0, .int .u64 0] ∧
    Blk wr (w.heap.size + 1 + 1 + 1) #[.int .u64 (l0 s), .int .u64 (l1 s), .int .u64 (l2 s), .int .u64 (l3 s)]

theorem add_round {n m s cv x c' : Int} {k : Nat} (hs : s + (4294967296 : Int) ^ k * cv = n % (4294967296 : Int) ^ k + m % (4294967296 : Int) ^ k) (hs0 : 0 ≤ s) (hs1 : s < (4294967296 : Int) ^ k)
    (hx : x = (cv + hf n k + hf m k) % 4294967296) (hc : c' = (cv + hf n k + hf m k) / 4294967296) :
    0 ≤ s + x * (4294967296 : Int) ^ k ∧ s + x * (4294967296 : Int) ^ k < (4294967296 : Int) ^ (k + 1) ∧
      s + x * (4294967296 : Int) ^ k + (4294967296 : Int) ^ (k + 1) * c' = n % (4294967296 : Int) ^ (k + 1) + m % (4294967296 : Int) ^ (k + 1) := by
  rw [mod_next, mod_next, Int.pow_succ]
  have hp := pow_pos32 k
  generalize (4294967296 : Int) ^ k = P at *
  have e : cv + hf n k + hf m k = x + 4294967296 * c' := by omega
  have hx0 : 0 ≤ x := by omega
  have hx1 : x ≤ 4294967295 := by omega
  have h1 : x * P ≤ 4294967295 * P := Int.mul_le_mul_of_nonneg_right hx1 (by omega)
  have h2 : 0 ≤ x * P := Int.mul_nonneg hx0 (by omega)
  have h3 : P * cv + P * hf n k + P * hf m k = x * P + P * 4294967296 * c' := by
    rw [← Int.mul_add, ← Int.mul_add, e, Int.mul_add, Int.mul_comm P x, Int.mul_assoc]
  refine ⟨by omega, by omega, by omega⟩

theorem add_start (n m : Int) (w : World) (A B : Obj) (hA : A = .cells #[.int .u64 (l0 n), .int .u64 (l1 n), .int .u64 (l2 n), .int .u64 (l3 n)] 26) (hB : B = .cells #[.int .u64 (l0 m), .int .u64 (l1 m), .int .u64 (l2 m), .int .u64 (l3 m)] 26) :
    AddI w n m (.int .u64 0) (.int .i64 0) ((((w.alloc A).alloc B).alloc (.cells #[.int .u64 0, .int .u64 0, .int .u64 0, .int .u64 0] 26)).alloc (.cells #[.int .u64 0, .int .u64 0, .int .u64 0, .int .u64 0] 26)) := by
  subst hA hB
  refine ⟨0, 0, 0, by omega, rfl, rfl, by omega, by omega, by omega, by decide, ?_, ?_, by simp, ?_, ?_, ?_, ?_⟩
  · simp
  · exact ((((Below.refl _ _).alloc (Nat.le_refl _) _).alloc (by simp) _).alloc (by simp; omega) _).alloc (by simp; omega) _
  · exact (((Blk.new rfl).alloc _).alloc _).alloc _
  · exact ((Blk.new (by simp)).alloc _).alloc _
  · exact (Blk.new (by simp)).alloc _
  · rw [limbs_zero.1, limbs_zero.2.1, limbs_zero.2.2.1, limbs_zero.2.2.2]; exact Blk.new (by simp)

set_option maxHeartbeats 2000000 in
theorem radd_any (n m : Int) (hn : W256 n) (hm : W256 m) (w : World) :
    Calls Try.prog 23 #[.agg #[.int .u64 (l0 (n)), .int .u64 (l1 (n)), .int .u64 (l2 (n)), .int .u64 (l3 (n))], .agg #[.int .u64 (l0 (m)), .int .u64 (l1 (m)), .int .u64 (l2 (m)), .int .u64 (l3 (m))]] w fun e w' => e = .returned (.tuple #[.agg #[.int .u64 (l0 (addN n m)), .int .u64 (l1 (addN n m)), .int .u64 (l2 (addN n m)), .int .u64 (l3 (addN n m))], .int .i64 (addF n m)]) ∧ Below w.heap.size w w' := by
  go_enter Try.func23, Try.ntmps23
  go_wp2_with fail
  go_loopw [7, 8] (fun c i wr => AddI w n m c i wr) (fun _ i _ => (8 - intOf i).toNat)
  case atStart => exact add_start n m w _ _ rfl rfl
  case round =>
    obtain ⟨k, cv, s, hk, rfl, rfl, hc0, hc1, hs0, hs1, hs, hb, hsz, bA, bB, bR, bS⟩ := hrel
    have HS := Lib.hid hs; clear hs
    have HS1 := Lib.hid hs1; clear hs1
    obtain ⟨a0, a1, a2, a3, a4⟩ := bA.four
    obtain ⟨b0, b1, b2, b3, b4⟩ := bB.four
    obtain ⟨z0, z1, z2, z3, z4⟩ := bR.four
    obtain ⟨s0, s1, s2, s3, s4⟩ := bS.four
    by_cases hlt : k < 8
    · obtain ⟨T, F, hT, hF, hG⟩ := fam wr.heap.size wr
      obtain ⟨hA, eA⟩ : ∃ x, hf n k = x := ⟨_, rfl⟩
      obtain ⟨hB, eB⟩ : ∃ x, hf m k = x := ⟨_, rfl⟩
      have H1 := half_any n k hlt hn
      have H2 := half_any m k hlt hm
      have rA := hf_rng n k
      have rB := hf_rng m k
      rw [eA] at H1 rA
      rw [eB] at H2 rB
      obtain ⟨rA0, rA1⟩ := rA
      obtain ⟨rB0, rB1⟩ := rB
      have HH1 := Lib.hid H1; clear H1
      have HH2 := Lib.hid H2; clear H2
      have fA := fun t => (bA.call (hF t)).four
      have fA0 := fun t => (fA t).1
      have fA1 := fun t => (fA t).2.1
      have fA2 := fun t => (fA t).2.2.1
      have fA3 := fun t => (fA t).2.2.2.1
      have fB := fun t => (bB.call (hF t)).four
      have fB0 := fun t => (fB t).1
      have fB1 := fun t => (fB t).2.1
      have fB2 := fun t => (fB t).2.2.1
      have fB3 := fun t => (fB t).2.2.2.1
      clear fA fB
      go_wp2_with fail
      refine wp_region_fam hG (by kernel_rfl) (by kernel_rfl) ?_
      repeat (go_big_quiet_step ((first | (go_at_call_of 21 (l0 n); exact fam_call hF hG (Nat.le_refl _) (HH1.out _)) | (go_at_call_of 21 (l0 m); exact fam_call hF hG (Nat.le_refl _) (HH2.out _)))))
      refine wpQuiet_nil ?_
      rintro _ ⟨t, rfl⟩
      obtain ⟨x, ex⟩ : ∃ x, bits .and .u64 (cv + hA + hB) 4294967295 = x := ⟨_, rfl⟩
      have ex' := and32 (cv + hA + hB) (by omega) (by omega)
      rw [ex] at ex'
      have hx0 : 0 ≤ x := by omega
      have hx1 : x < 4294967296 := by omega
      have HR := Lib.hid (add_round (x := x) (c' := (cv + hA + hB) / 4294967296) HS.out hs0 HS1.out (by rw [eA, eB]; exact ex') (by rw [eA, eB]))
      have HP := Lib.hid (put_any s x k hlt hs0 HS1.out hx0 hx1)
      clear ex'
      obtain ⟨s0, s1, s2, s3, s4⟩ := (bS.call (hF t)).four
      go_wp2_with (go_at_call 22; refine (HP.out _).mono ?_; rintro e w2 ⟨rfl, hb2⟩; obtain ⟨p0, p1, p2, p3, p4⟩ := ((bS.call (hF t)).call hb2).four)
      go_roundw
      case rel =>
        have ht := (hF t).size
        have hs2 := hb2.size
        refine ⟨k + 1, _, _, by omega, by go_num, rfl, by omega, by omega, HR.out.1, HR.out.2.1, HR.out.2.2, ?_, ?_, ?_, ?_, ?_, ?_⟩
        · exact below_store4 (hb.trans ((((hF t).mono (by omega)).trans (hb2.mono (by omega))))) (by omega)
        · rw [size_store4]; omega
        · exact ((bA.call (hF t)).call hb2).store4_other (by omega)
        · exact ((bB.call (hF t)).call hb2).store4_other (by omega)
        · exact ((bR.call (hF t)).call hb2).store4_other (by omega)
        · exact ((bS.call (hF t)).call hb2).store4
      case measure => simp [intOf]; omega
    · obtain rfl : k = 8 := by omega
      have hs := HS.out
      have hs1 := HS1.out
      rw [pow8] at hs hs1
      rw [Int.emod_eq_of_lt hn.1 hn.2, Int.emod_eq_of_lt hm.1 hm.2] at hs
      by_cases hz : cv = 0
      · have e1 : addN n m = s := by unfold addN; rw [if_pos (by omega)]; omega
        have e2 : addF n m = 0 := by unfold addF; rw [if_pos (by omega)]
        have E1 := Lib.hid e1
        have E2 := Lib.hid e2
        subst hz
        clear hs hs1 e1 e2
        go_wp2_with fail
        refine bodyPost_ret (v := .tuple #[.agg #[.int .u64 (l0 (s)), .int .u64 (l1 (s)), .int .u64 (l2 (s)), .int .u64 (l3 (s))], .int .i64 0]) (by simp [results, Try.results23, go_sem, z0, z1, z2, z3]) rfl ⟨by rw [E1.out, E2.out], ?_⟩
        exact below_store4 hb (by omega)
      · have e1 : addN n m = 0 := by unfold addN; rw [if_neg (by omega)]
        have e2 : addF n m = 4 := by unfold addF; rw [if_neg (by omega)]
        have E1 := Lib.hid e1
        have E2 := Lib.hid e2
        have hz' : 0 < cv := by omega
        clear hs hs1 e1 e2
        go_wp2_with fail
        refine bodyPost_ret (v := .tuple #[.agg #[.int .u64 0, .int .u64 0, .int .u64 0, .int .u64 0], .int .i64 4]) (by simp [results, Try.results23, go_sem, z0, z1, z2, z3]) rfl ⟨by rw [E1.out, E2.out, limbs_zero.1, limbs_zero.2.1, limbs_zero.2.2.1, limbs_zero.2.2.2], ?_⟩
        exact below_store4 hb (by omega)
end Go.Proofs.Ytidimiioglgliaa
