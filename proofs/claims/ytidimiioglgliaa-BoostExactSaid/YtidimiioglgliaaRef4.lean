/- Contract of the reference's MulSmall. -/
import Derived.Test.YtidimiioglgliaaRef3
import Derived.Test.YtidimiioglgliaaRef1
import Derived.Deep.RegionHeld3
set_option linter.unusedVariables false
namespace Go.Proofs.Ytidimiioglgliaa
open Go.RowKit

theorem pow7 : (4294967296 : Int) ^ 7 = 26959946667150639794667015087019630673637144422540572481103610249216 := by decide

/-- What stands at the loop's head: k half limbs have been moved. -/
def MovI (w : World) (bL bH bM : Nat) (lo hi : Int) (i : Value) (wr : World) : Prop :=
  ∃ (k : Nat) (s : Int), k ≤ 7 ∧ i = .int .i64 k ∧ s = hi % (4294967296 : Int) ^ k * 4294967296 ∧ w.heap.size + 1 < bL ∧ bL < bH ∧ bH < bM ∧
    Below w.heap.size w wr ∧ Blk wr bL #[.int .u64 (l0 lo), .int .u64 (l1 lo), .int .u64 (l2 lo), .int .u64 (l3 lo)] ∧ Blk wr bH #[.int .u64 (l0 hi), .int .u64 (l1 hi), .int .u64 (l2 hi), .int .u64 (l3 hi)] ∧ Blk wr (w.heap.size + 1) #[.int .u64 0, .int .u64 0, .int .u64 0, .int .u64 0] ∧ Blk wr bM #[.int .u64 (l0 s), .int .u64 (l1 s), .int .u64 (l2 s), .int .u64 (l3 s)]

theorem mov_rng (hi : Int) (k : Nat) : 0 ≤ hi % (4294967296 : Int) ^ k * 4294967296 ∧ hi % (4294967296 : Int) ^ k * 4294967296 < (4294967296 : Int) ^ (k + 1) := by
  rw [Int.pow_succ]
  have hp := pow_pos32 k
  generalize (4294967296 : Int) ^ k = P at *
  have h1 := Int.emod_nonneg hi (show P ≠ 0 by omega)
  have h2 := Int.emod_lt_of_pos hi hp
  generalize hi % P = z at *
  omega

theorem mov_next (hi : Int) (k : Nat) : hi % (4294967296 : Int) ^ k * 4294967296 + hf hi k * (4294967296 : Int) ^ (k + 1) = hi % (4294967296 : Int) ^ (k + 1) * 4294967296 := by
  rw [mod_next, Int.pow_succ, Int.add_mul]
  congr 1
  rw [Int.mul_comm _ (hf hi k), Int.mul_assoc]

set_option maxHeartbeats 4000000 in
theorem mov_loop_helper (n k : Int) : True := trivial

theorem mul_split {n k kl kh : Int} (hkl : kl = k % 4294967296) (hkh : kh = k / 4294967296) : n * k = n * kl + n * kh * 4294967296 := by
  have : k = kl + kh * 4294967296 := by omega
  rw [this, Int.mul_add, Int.mul_assoc]

theorem mad_big {n k : Int} (h : 115792089237316195423570985008687907853269984665640564039457584007913129639936 ≤ n * k) : madN n k 0 = 0 ∧ madF n k 0 = 4 := by
  unfold madN madF
  rw [if_neg (by omega), if_neg (by omega)]; exact ⟨rfl, rfl⟩

theorem fits_yes {n q : Int} (h : n * q < 115792089237316195423570985008687907853269984665640564039457584007913129639936) : fitsB n q 0 = true := by unfold fitsB; simp; exact h

theorem fits_no {n q : Int} (h : 115792089237316195423570985008687907853269984665640564039457584007913129639936 ≤ n * q) : fitsB n q 0 = false := by unfold fitsB; simp; exact h

theorem low_is {n q : Int} (h0 : 0 ≤ n * q) (h : n * q < 115792089237316195423570985008687907853269984665640564039457584007913129639936) : lowN n q 0 = n * q := by unfold lowN; rw [Int.add_zero, Int.emod_eq_of_lt h0 h]

set_option maxHeartbeats 2000000 in
theorem rmul_bad1 (n k kl kh : Int) (hn : W256 n) (ekl : bits .and .u64 k 4294967295 = kl) (ekh : k / 4294967296 = kh) (hkl0 : 0 ≤ kl) (hkl1 : kl < 4294967296) (hkh0 : 0 ≤ kh) (hkh1 : kh < 4294967296) (w : World) (e1 : fitsB n kl 0 = false) (hbig : 115792089237316195423570985008687907853269984665640564039457584007913129639936 ≤ n * k) :
    Calls Try.prog 10 #[.agg #[.int .u64 (l0 (n)), .int .u64 (l1 (n)), .int .u64 (l2 (n)), .int .u64 (l3 (n))], .int .u64 k] w fun e w' => e = .returned (.tuple #[.agg #[.int .u64 (l0 (madN n k 0)), .int .u64 (l1 (madN n k 0)), .int .u64 (l2 (madN n k 0)), .int .u64 (l3 (madN n k 0))], .int .i64 (madF n k 0)]) ∧ Below w.heap.size w w' := by
  have H1 := Lib.hid (rmad_any n kl 0 hn hkl0 hkl1 (by omega) (by omega))
  have H2 := Lib.hid (rmad_any n kh 0 hn hkh0 hkh1 (by omega) (by omega))
  obtain ⟨b2, e2⟩ : ∃ b, fitsB n kh 0 = b := ⟨_, rfl⟩
  have E1 := Lib.hid (mad_big hbig).1
  have E2 := Lib.hid (mad_big hbig).2
  clear hbig
  have hb := Below.refl w.heap.size w
  have bA : Blk ((w.alloc (.cells #[.int .u64 (l0 n), .int .u64 (l1 n), .int .u64 (l2 n), .int .u64 (l3 n)] 26)).alloc (.cells #[.int .u64 0, .int .u64 0, .int .u64 0, .int .u64 0] 26)) w.heap.size #[.int .u64 (l0 n), .int .u64 (l1 n), .int .u64 (l2 n), .int .u64 (l3 n)] := (Blk.new rfl).alloc _
  have bR : Blk ((w.alloc (.cells #[.int .u64 (l0 n), .int .u64 (l1 n), .int .u64 (l2 n), .int .u64 (l3 n)] 26)).alloc (.cells #[.int .u64 0, .int .u64 0, .int .u64 0, .int .u64 0] 26)) (w.heap.size + 1) #[.int .u64 0, .int .u64 0, .int .u64 0, .int .u64 0] := Blk.new (by simp)
  go_enter Try.func10, Try.ntmps10
  go_wp2_with (first
    | (go_at_call_of 20 kl; refine (H1.out _).mono ?_; rintro e w1 ⟨rfl, hb1⟩; rw [e1]; replace bA := bA.call hb1; replace bR := bR.call hb1; replace hb := bel2 hb hb1; clear hb1; obtain ⟨a0, a1, a2, a3, a4⟩ := bA.four; have lA := bA.lt; have lR := bR.lt; have lR1 := bR.lt)
    | (go_at_call_of 20 kh; refine (H2.out _).mono ?_; rintro e w2 ⟨rfl, hb2⟩; rw [e2]; replace bA := (bA.alloc _).call hb2; replace bR := (bR.alloc _).call hb2; have bL := Blk.call hb2 (Blk.new rfl); replace hb := bel1 hb hb2; clear hb2; obtain ⟨a0, a1, a2, a3, a4⟩ := bA.four; obtain ⟨z0, z1, z2, z3, z4⟩ := bR.four; have lA := bA.lt; have lR := bR.lt; have lL := bL.lt; have lL2 := bL.lt))
  refine bodyPost_ret (res_cell_tmp rfl rfl rfl (bR.store4.alloc _) Try.underlying26 rfl (by kernel_rfl)) rfl ⟨by rw [E1.out, E2.out, limbs_zero.1, limbs_zero.2.1, limbs_zero.2.2.1, limbs_zero.2.2.2]; rfl, ?_⟩
  exact (below_store4 hb (by omega)).alloc (below_store4 hb (by omega)).size _

set_option maxHeartbeats 2000000 in
theorem rmul_bad2 (n k kl kh : Int) (hn : W256 n) (ekl : bits .and .u64 k 4294967295 = kl) (ekh : k / 4294967296 = kh) (hkl0 : 0 ≤ kl) (hkl1 : kl < 4294967296) (hkh0 : 0 ≤ kh) (hkh1 : kh < 4294967296) (w : World) (e1 : fitsB n kl 0 = true) (e2 : fitsB n kh 0 = false) (hbig : 115792089237316195423570985008687907853269984665640564039457584007913129639936 ≤ n * k) :
    Calls Try.prog 10 #[.agg #[.int .u64 (l0 (n)), .int .u64 (l1 (n)), .int .u64 (l2 (n)), .int .u64 (l3 (n))], .int .u64 k] w fun e w' => e = .returned (.tuple #[.agg #[.int .u64 (l0 (madN n k 0)), .int .u64 (l1 (madN n k 0)), .int .u64 (l2 (madN n k 0)), .int .u64 (l3 (madN n k 0))], .int .i64 (madF n k 0)]) ∧ Below w.heap.size w w' := by
  have H1 := Lib.hid (rmad_any n kl 0 hn hkl0 hkl1 (by omega) (by omega))
  have H2 := Lib.hid (rmad_any n kh 0 hn hkh0 hkh1 (by omega) (by omega))
  have E1 := Lib.hid (mad_big hbig).1
  have E2 := Lib.hid (mad_big hbig).2
  clear hbig
  have hb := Below.refl w.heap.size w
  have bA : Blk ((w.alloc (.cells #[.int .u64 (l0 n), .int .u64 (l1 n), .int .u64 (l2 n), .int .u64 (l3 n)] 26)).alloc (.cells #[.int .u64 0, .int .u64 0, .int .u64 0, .int .u64 0] 26)) w.heap.size #[.int .u64 (l0 n), .int .u64 (l1 n), .int .u64 (l2 n), .int .u64 (l3 n)] := (Blk.new rfl).alloc _
  have bR : Blk ((w.alloc (.cells #[.int .u64 (l0 n), .int .u64 (l1 n), .int .u64 (l2 n), .int .u64 (l3 n)] 26)).alloc (.cells #[.int .u64 0, .int .u64 0, .int .u64 0, .int .u64 0] 26)) (w.heap.size + 1) #[.int .u64 0, .int .u64 0, .int .u64 0, .int .u64 0] := Blk.new (by simp)
  go_enter Try.func10, Try.ntmps10
  go_wp2_with (first
    | (go_at_call_of 20 kl; refine (H1.out _).mono ?_; rintro e w1 ⟨rfl, hb1⟩; rw [e1]; replace bA := bA.call hb1; replace bR := bR.call hb1; replace hb := bel2 hb hb1; clear hb1; obtain ⟨a0, a1, a2, a3, a4⟩ := bA.four; have lA := bA.lt; have lR := bR.lt; have lR1 := bR.lt)
    | (go_at_call_of 20 kh; refine (H2.out _).mono ?_; rintro e w2 ⟨rfl, hb2⟩; rw [e2]; replace bA := (bA.alloc _).call hb2; replace bR := (bR.alloc _).call hb2; have bL := Blk.call hb2 (Blk.new rfl); replace hb := bel1 hb hb2; clear hb2; obtain ⟨a0, a1, a2, a3, a4⟩ := bA.four; obtain ⟨z0, z1, z2, z3, z4⟩ := bR.four; have lA := bA.lt; have lR := bR.lt; have lL := bL.lt; have lL2 := bL.lt))
  refine bodyPost_ret (res_cell_tmp rfl rfl rfl (bR.store4.alloc _) Try.underlying26 rfl (by kernel_rfl)) rfl ⟨by rw [E1.out, E2.out, limbs_zero.1, limbs_zero.2.1, limbs_zero.2.2.1, limbs_zero.2.2.2]; rfl, ?_⟩
  exact (below_store4 hb (by omega)).alloc (below_store4 hb (by omega)).size _

set_option maxHeartbeats 2000000 in
theorem rmul_bad3 (n k kl kh : Int) (hn : W256 n) (ekl : bits .and .u64 k 4294967295 = kl) (ekh : k / 4294967296 = kh) (hkl0 : 0 ≤ kl) (hkl1 : kl < 4294967296) (hkh0 : 0 ≤ kh) (hkh1 : kh < 4294967296) (w : World) (e1 : fitsB n kl 0 = true) (e2 : fitsB n kh 0 = true) (h7 : 0 < hf (lowN n kh 0) 7) (hbig : 115792089237316195423570985008687907853269984665640564039457584007913129639936 ≤ n * k) :
    Calls Try.prog 10 #[.agg #[.int .u64 (l0 (n)), .int .u64 (l1 (n)), .int .u64 (l2 (n)), .int .u64 (l3 (n))], .int .u64 k] w fun e w' => e = .returned (.tuple #[.agg #[.int .u64 (l0 (madN n k 0)), .int .u64 (l1 (madN n k 0)), .int .u64 (l2 (madN n k 0)), .int .u64 (l3 (madN n k 0))], .int .i64 (madF n k 0)]) ∧ Below w.heap.size w w' := by
  have H1 := Lib.hid (rmad_any n kl 0 hn hkl0 hkl1 (by omega) (by omega))
  have H2 := Lib.hid (rmad_any n kh 0 hn hkh0 hkh1 (by omega) (by omega))
  have H3 := Lib.hid (half_7 (lowN n kh 0) (lowN_rng _ _ _))
  have E1 := Lib.hid (mad_big hbig).1
  have E2 := Lib.hid (mad_big hbig).2
  clear hbig
  have hb := Below.refl w.heap.size w
  have bA : Blk ((w.alloc (.cells #[.int .u64 (l0 n), .int .u64 (l1 n), .int .u64 (l2 n), .int .u64 (l3 n)] 26)).alloc (.cells #[.int .u64 0, .int .u64 0, .int .u64 0, .int .u64 0] 26)) w.heap.size #[.int .u64 (l0 n), .int .u64 (l1 n), .int .u64 (l2 n), .int .u64 (l3 n)] := (Blk.new rfl).alloc _
  have bR : Blk ((w.alloc (.cells #[.int .u64 (l0 n), .int .u64 (l1 n), .int .u64 (l2 n), .int .u64 (l3 n)] 26)).alloc (.cells #[.int .u64 0, .int .u64 0, .int .u64 0, .int .u64 0] 26)) (w.heap.size + 1) #[.int .u64 0, .int .u64 0, .int .u64 0, .int .u64 0] := Blk.new (by simp)
  go_enter Try.func10, Try.ntmps10
  go_wp2_with (first
    | (go_at_call_of 20 kl; refine (H1.out _).mono ?_; rintro e w1 ⟨rfl, hb1⟩; rw [e1]; replace bA := bA.call hb1; replace bR := bR.call hb1; replace hb := bel2 hb hb1; clear hb1; obtain ⟨a0, a1, a2, a3, a4⟩ := bA.four; have lA := bA.lt; have lR := bR.lt; have lR1 := bR.lt)
    | (go_at_call_of 20 kh; refine (H2.out _).mono ?_; rintro e w2 ⟨rfl, hb2⟩; rw [e2]; replace bA := (bA.alloc _).call hb2; replace bR := (bR.alloc _).call hb2; have bL := Blk.call hb2 (Blk.new rfl); replace hb := bel1 hb hb2; clear hb2; obtain ⟨a0, a1, a2, a3, a4⟩ := bA.four; obtain ⟨z0, z1, z2, z3, z4⟩ := bR.four; have lA := bA.lt; have lR := bR.lt; have lL := bL.lt; have lL2 := bL.lt)
    | (go_at_call 21; refine (H3.out _).mono ?_; rintro e w3 ⟨rfl, hb3⟩; replace bR := (bR.alloc _).call hb3; replace bL := (bL.alloc _).call hb3; have bH := Blk.call hb3 (Blk.new rfl); replace hb := bel1 hb hb3; clear hb3; obtain ⟨z0, z1, z2, z3, z4⟩ := bR.four; have lR := bR.lt; have lL := bL.lt; have lH := bH.lt))
  refine bodyPost_ret (res_cell_tmp rfl rfl rfl bR.store4 Try.underlying26 rfl (by kernel_rfl)) rfl ⟨by rw [E1.out, E2.out, limbs_zero.1, limbs_zero.2.1, limbs_zero.2.2.1, limbs_zero.2.2.2]; rfl, ?_⟩
  exact below_store4 hb (by omega)
end Go.Proofs.Ytidimiioglgliaa
