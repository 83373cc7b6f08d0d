/- Contract of the reference's MulAdd. -/
import Derived.Test.YtidimiioglgliaaRef0
import Derived.Test.YtidimiioglgliaaEq
set_option linter.unusedVariables false
namespace Go.Proofs.Ytidimiioglgliaa
open Go.RowKit

def MadI (w : World) (n q c0 : Int) (c i : Value) (wr : World) : Prop :=
  ∃ (k : Nat) (cv s : Int), k ≤ 8 ∧ i = .int .i64 k ∧ c = .int .u64 cv ∧ 0 ≤ cv ∧ cv < 4294967296 ∧ 0 ≤ s ∧ s < (4294967296 : Int) ^ k ∧ s + (4294967296 : Int) ^ k * cv = n % (4294967296 : Int) ^ k * q + c0 ∧
    Below w.heap.size w wr ∧ Blk wr w.heap.size #[.int .u64 (l0 n), .int .u64 (l1 n), .int .u64 (l2 n), .int .u64 (l3 n)] ∧ Blk wr (w.heap.size + 1) #[.int .u64 0, .int .u64 0, .int .u64 0, .int .u64 0] ∧
    Blk wr (w.heap.size + 1 + 1) #[.int .u64 (l0 s), .int .u64 (l1 s), .int .u64 (l2 s), .int .u64 (l3 s)]

theorem mad_round {n q c0 s cv x c' : Int} {k : Nat} (hs : s + (4294967296 : Int) ^ k * cv = n % (4294967296 : Int) ^ k * q + c0) (hs0 : 0 ≤ s) (hs1 : s < (4294967296 : Int) ^ k)
    (hx : x = (cv + hf n k * q) % 4294967296) (hc : c' = (cv + hf n k * q) / 4294967296) :
    0 ≤ s + x * (4294967296 : Int) ^ k ∧ s + x * (4294967296 : Int) ^ k < (4294967296 : Int) ^ (k + 1) ∧
      s + x * (4294967296 : Int) ^ k + (4294967296 : Int) ^ (k + 1) * c' = n % (4294967296 : Int) ^ (k + 1) * q + c0 := by
  rw [mod_next, Int.pow_succ]
  have hp := pow_pos32 k
  generalize (4294967296 : Int) ^ k = P at *
  have e : cv + hf n k * q = x + 4294967296 * c' := by
    generalize hf n k * q = z at *
    omega
  have hx0 : 0 ≤ x := by generalize hf n k * q = z at *; omega
  have hx1 : x ≤ 4294967295 := by generalize hf n k * q = z at *; omega
  have h1 : x * P ≤ 4294967295 * P := Int.mul_le_mul_of_nonneg_right hx1 (by omega)
  have h2 : 0 ≤ x * P := Int.mul_nonneg hx0 (by omega)
  have h3 : P * cv + P * (hf n k * q) = x * P + P * 4294967296 * c' := by
    rw [← Int.mul_add, e, Int.mul_add, Int.mul_comm P x, Int.mul_assoc]
  have h4 : (n % P + P * hf n k) * q = n % P * q + P * (hf n k * q) := by rw [Int.add_mul, Int.mul_assoc]
  refine ⟨by omega, by omega, ?_⟩
  rw [h4]
  generalize n % P * q = z1 at *
  generalize P * (hf n k * q) = z2 at *
  generalize P * 4294967296 * c' = z3 at *
  generalize P * cv = z4 at *
  generalize x * P = z5 at *
  omega

/-- What MulAdd makes: the product's low 256 bits, and whether that is all. -/
def lowN (n q c : Int) : Int := (n * q + c) % 115792089237316195423570985008687907853269984665640564039457584007913129639936

def fitsB (n q c : Int) : Bool := decide (n * q + c < 115792089237316195423570985008687907853269984665640564039457584007913129639936)

theorem lowN_rng (n q c : Int) : W256 (lowN n q c) := by unfold W256 lowN; omega

set_option maxHeartbeats 2000000 in
theorem rmad_any (n q c0 : Int) (hn : W256 n) (hq : 0 ≤ q) (hq2 : q < 4294967296) (hc : 0 ≤ c0) (hc2 : c0 < 4294967296) (w : World) :
    Calls Try.prog 20 #[.agg #[.int .u64 (l0 (n)), .int .u64 (l1 (n)), .int .u64 (l2 (n)), .int .u64 (l3 (n))], .int .u64 q, .int .u64 c0] w fun e w' => e = .returned (.tuple #[.agg #[.int .u64 (l0 (lowN n q c0)), .int .u64 (l1 (lowN n q c0)), .int .u64 (l2 (lowN n q c0)), .int .u64 (l3 (lowN n q c0))], .bool (fitsB n q c0)]) ∧ Below w.heap.size w w' := by
  go_enter Try.func20, Try.ntmps20
  go_wp2_with fail
  go_loopw [2, 9] (fun c i wr => MadI w n q c0 c i wr) (fun _ i _ => (8 - intOf i).toNat)
  case atStart =>
    refine ⟨0, c0, 0, by omega, rfl, rfl, hc, hc2, by omega, by decide, ?_, ?_, ?_, ?_, ?_⟩
    · simp [Int.emod_one]
    · exact (((Below.refl _ _).alloc (Nat.le_refl _) _).alloc (by simp) _).alloc (by simp; omega) _
    · exact ((Blk.new rfl).alloc _).alloc _
    · exact (Blk.new (by simp)).alloc _
    · rw [limbs_zero.1, limbs_zero.2.1, limbs_zero.2.2.1, limbs_zero.2.2.2]; exact Blk.new (by simp)
  case round =>
    obtain ⟨k, cv, s, hk, rfl, rfl, hc0, hc1, hs0, hs1, hs, hb, bA, bR, bS⟩ := hrel
    have HS := Lib.hid hs; clear hs
    have HS1 := Lib.hid hs1; clear hs1
    obtain ⟨a0, a1, a2, a3, a4⟩ := bA.four
    obtain ⟨z0, z1, z2, z3, z4⟩ := bR.four
    obtain ⟨s0, s1, s2, s3, s4⟩ := bS.four
    by_cases hlt : k < 8
    · obtain ⟨hA, eA⟩ : ∃ x, hf n k = x := ⟨_, rfl⟩
      have H1 := half_any n k hlt hn
      have rA := hf_rng n k
      rw [eA] at H1 rA
      obtain ⟨rA0, rA1⟩ := rA
      have HH1 := Lib.hid H1; clear H1
      have hp0 : 0 ≤ hA * q := Int.mul_nonneg rA0 hq
      have hp1 : hA * q ≤ 4294967295 * 4294967295 := Int.le_trans (Int.mul_le_mul_of_nonneg_right (by omega) hq) (Int.mul_le_mul_of_nonneg_left (by omega) (by omega))
      obtain ⟨p, ep⟩ : ∃ p, IntKind.u64.wrap (hA * q) = p := ⟨_, rfl⟩
      have ep' := ep
      rw [u64_wrap hp0 (by omega)] at ep'
      have hP0 : 0 ≤ p := by omega
      have hP1 : p ≤ 18446744065119617025 := by omega
      have EP := Lib.hid ep'; clear ep' hp0 hp1
      obtain ⟨x, ex⟩ : ∃ x, bits .and .u64 (cv + p) 4294967295 = x := ⟨_, rfl⟩
      have ex' := and32 (cv + p) (by omega) (by omega)
      rw [ex] at ex'
      have hx0 : 0 ≤ x := by omega
      have hx1 : x < 4294967296 := by omega
      have HR := Lib.hid (mad_round (x := x) (c' := (cv + p) / 4294967296) HS.out hs0 HS1.out (by rw [eA, EP.out]; exact ex') (by rw [eA, EP.out]))
      have HP := Lib.hid (put_any s x k hlt hs0 HS1.out hx0 hx1)
      clear ex'
      go_wp2_with (first
        | (go_at_call 21; refine (HH1.out _).mono ?_; rintro e w1 ⟨rfl, hb1⟩; obtain ⟨s0, s1, s2, s3, s4⟩ := (bS.call hb1).four)
        | (go_at_call 22; refine (HP.out _).mono ?_; rintro e w2 ⟨rfl, hb2⟩; obtain ⟨p0, p1, p2, p3, p4⟩ := ((bS.call hb1).call hb2).four))
      go_roundw
      case rel =>
        refine ⟨k + 1, _, _, by omega, by go_num, rfl, by omega, by omega, HR.out.1, HR.out.2.1, HR.out.2.2, ?_, ?_, ?_, ?_⟩
        · exact below_store4 (bel0 (bel0 hb hb1) hb2) (by omega)
        · exact ((bA.call hb1).call hb2).store4_other (by omega)
        · exact ((bR.call hb1).call hb2).store4_other (by omega)
        · exact ((bS.call hb1).call hb2).store4
      case measure => simp [intOf]; omega
    · obtain rfl : k = 8 := by omega
      have hs := HS.out
      have hs1 := HS1.out
      rw [pow8] at hs hs1
      rw [Int.emod_eq_of_lt hn.1 hn.2] at hs
      have e1 : lowN n q c0 = s := by unfold lowN; rw [← hs]; omega
      have e2 : fitsB n q c0 = (cv == 0) := by
        unfold fitsB; rw [← hs, Bool.eq_iff_iff]; simp; omega
      have E1 := Lib.hid e1
      have E2 := Lib.hid e2
      clear hs hs1 e1 e2
      go_wp2_with fail
      refine bodyPost_ret (v := .tuple #[.agg #[.int .u64 (l0 (s)), .int .u64 (l1 (s)), .int .u64 (l2 (s)), .int .u64 (l3 (s))], .bool (cv == 0)]) (by simp [results, Try.results20, go_sem, z0, z1, z2, z3]) rfl ⟨by rw [E1.out, E2.out], ?_⟩
      exact below_store4 hb (by omega)
end Go.Proofs.Ytidimiioglgliaa
