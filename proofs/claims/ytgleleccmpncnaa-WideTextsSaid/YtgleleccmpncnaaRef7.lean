/- Contract of the reference's DivSmall: bit by bit. -/
import Derived.Test.YtgleleccmpncnaaRef6
import Derived.Test.YtgleleccmpncnaaWide3
set_option linter.unusedVariables false
namespace Go.Proofs.Ytgleleccmpncnaa
open Go.RowKit

/-- What stands at the loop's head: c bits are left. -/
def DivI (w : World) (n k : Int) (r i : Value) (wr : World) : Prop :=
  ∃ (c : Nat) (rv q : Int), c ≤ 256 ∧ i = .int .i64 ((c : Int) - 1) ∧ r = .int .u64 rv ∧ rv = n / (2 : Int) ^ c % k ∧ q = n / (2 : Int) ^ c / k * (2 : Int) ^ c ∧
    Below w.heap.size w wr ∧ Blk wr w.heap.size #[.int .u64 (l0 n), .int .u64 (l1 n), .int .u64 (l2 n), .int .u64 (l3 n)] ∧ Blk wr (w.heap.size + 1) #[.int .u64 0, .int .u64 0, .int .u64 0, .int .u64 0] ∧ Blk wr (w.heap.size + 1 + 1) #[.int .u64 (l0 q), .int .u64 (l1 q), .int .u64 (l2 q), .int .u64 (l3 q)]

theorem div_bit {n k : Int} (hk : 0 < k) (c : Nat) : n / (2 : Int) ^ c = 2 * (n / (2 : Int) ^ (c + 1)) + bitN n c := by
  unfold bitN
  rw [Int.pow_succ, ← Int.ediv_ediv_of_nonneg (Int.le_of_lt (pow_pos2 _))]
  omega

theorem div_round {n k : Int} (hk : 0 < k) (c : Nat) :
    0 ≤ n / (2 : Int) ^ (c + 1) % k ∧ n / (2 : Int) ^ (c + 1) % k < k ∧
    (2 * (n / (2 : Int) ^ (c + 1) % k) + bitN n c < k → n / (2 : Int) ^ c % k = 2 * (n / (2 : Int) ^ (c + 1) % k) + bitN n c ∧ n / (2 : Int) ^ c / k = 2 * (n / (2 : Int) ^ (c + 1) / k)) ∧
    (k ≤ 2 * (n / (2 : Int) ^ (c + 1) % k) + bitN n c → n / (2 : Int) ^ c % k = 2 * (n / (2 : Int) ^ (c + 1) % k) + bitN n c - k ∧ n / (2 : Int) ^ c / k = 2 * (n / (2 : Int) ^ (c + 1) / k) + 1) := by
  have hb := bitN_rng n c
  rw [div_bit (n := n) hk c]
  generalize n / (2 : Int) ^ (c + 1) = N at *
  generalize bitN n c = b at *
  have h1 := Int.emod_nonneg N (show k ≠ 0 by omega)
  have h2 := Int.emod_lt_of_pos N hk
  have h3 := Int.mul_ediv_add_emod N k
  generalize N % k = r at *
  generalize N / k = D at *
  refine ⟨h1, h2, fun h => ?_, fun h => ?_⟩
  · have e : 2 * N + b = (2 * r + b) + k * (2 * D) := by rw [Int.mul_left_comm]; omega
    rw [e, Int.add_mul_emod_self_left, Int.add_mul_ediv_left _ _ (by omega), Int.emod_eq_of_lt (by omega) h, Int.ediv_eq_zero_of_lt (by omega) h]
    omega
  · have e : 2 * N + b = (2 * r + b - k) + k * (2 * D + 1) := by rw [Int.mul_add, Int.mul_left_comm]; omega
    rw [e, Int.add_mul_emod_self_left, Int.add_mul_ediv_left _ _ (by omega), Int.emod_eq_of_lt (by omega) (by omega), Int.ediv_eq_zero_of_lt (by omega) (by omega)]
    omega

theorem or_bit {m z : Int} {t : Nat} (ht : t < 64) (h0 : 0 ≤ m) (hm : m = z * (2 : Int) ^ (t + 1)) (hlt : m < 18446744073709551616) : bits .or .u64 m (IntKind.u64.wrap ((2 : Int) ^ t)) = m + (2 : Int) ^ t ∧ m + (2 : Int) ^ t < 18446744073709551616 := by
  have hp := pow_pos2 t
  have hB := pow_split ht
  have hz : 0 ≤ z := by
    rcases Int.lt_or_le z 0 with h | h
    · have := Int.mul_neg_of_neg_of_pos h (pow_pos2 (t + 1)); omega
    · exact h
  have hz2 : z < (2 : Int) ^ (63 - t) := by
    rcases Int.lt_or_le z ((2 : Int) ^ (63 - t)) with h | h
    · exact h
    · have h1 := Int.mul_le_mul_of_nonneg_right h (Int.le_of_lt (pow_pos2 (t + 1)))
      rw [Int.pow_succ, ← Int.mul_assoc, Int.mul_comm ((2 : Int) ^ (63 - t)), Int.mul_assoc, ← hB] at h1
      rw [Int.pow_succ] at hm
      omega
  have hsum : m + (2 : Int) ^ t < 18446744073709551616 := by
    have h1 : (z + 1) * (2 : Int) ^ (t + 1) ≤ (2 : Int) ^ (63 - t) * (2 : Int) ^ (t + 1) := Int.mul_le_mul_of_nonneg_right (by omega) (Int.le_of_lt (pow_pos2 (t + 1)))
    rw [Int.add_mul, ← hm, Int.one_mul] at h1
    have e : (2 : Int) ^ (63 - t) * (2 : Int) ^ (t + 1) = 18446744073709551616 := by
      rw [Int.pow_succ, ← Int.mul_assoc, Int.mul_comm ((2 : Int) ^ (63 - t)), Int.mul_assoc, ← hB]
    rw [e, Int.pow_succ] at h1
    omega
  refine ⟨?_, hsum⟩
  obtain ⟨y, rfl⟩ := Int.eq_ofNat_of_zero_le hz
  have c1 : (2 : Int) ^ t = ((2 ^ t : Nat) : Int) := by rw [Int.natCast_pow]; rfl
  have c2 : (y : Int) * (2 : Int) ^ (t + 1) = ((y * 2 ^ (t + 1) : Nat) : Int) := by rw [Int.natCast_mul, Int.natCast_pow]; rfl
  rw [hm] at hsum ⊢
  rw [c1, c2] at hsum
  rw [c1, c2, u64_wrap (Int.natCast_nonneg _) (by rw [← c2, ← hm] at hsum; rw [← c1]; omega)]
  rw [or_low (t + 1) y (2 ^ t) (by rw [Nat.pow_succ]; have := Nat.two_pow_pos t; omega) (Int.ofNat_lt.1 (by rw [Int.natCast_add]; exact hsum))]
  rw [Int.natCast_add]

theorem limb_mul {D : Int} {t : Nat} (ht : t < 64) : D * (2 : Int) ^ (t + 1) % 18446744073709551616 = (D % (2 : Int) ^ (63 - t)) * (2 : Int) ^ (t + 1) := by
  have e : (18446744073709551616 : Int) = (2 : Int) ^ (t + 1) * (2 : Int) ^ (63 - t) := by
    rw [← Int.pow_add, show t + 1 + (63 - t) = 64 by omega]; rfl
  rw [e, Int.mul_comm D, Int.mul_emod_mul_of_pos _ _ (pow_pos2 _), Int.mul_comm]

theorem put_bit_0 {u : World} {b : Nat} {q D : Int} {i t : Nat} (ht : t < 64) (hi : i = 0 + t) (hq : q = D * (2 : Int) ^ (i + 1)) (hW : W256 q) (h : Blk u b #[.int .u64 (l0 q), .int .u64 (l1 q), .int .u64 (l2 q), .int .u64 (l3 q)]) :
    Blk (u.setCell ⟨b, 0, none⟩ (.int .u64 (bits .or .u64 (l0 q) (IntKind.u64.wrap ((2 : Int) ^ t))))) b #[.int .u64 (l0 (q + (2 : Int) ^ i)), .int .u64 (l1 (q + (2 : Int) ^ i)), .int .u64 (l2 (q + (2 : Int) ^ i)), .int .u64 (l3 (q + (2 : Int) ^ i))] := by
  obtain ⟨r0, r1, r2, r3⟩ := limbs_rng q
  have hl : l0 q = (D % (2 : Int) ^ (63 - t)) * (2 : Int) ^ (t + 1) := by
    rw [← limb_mul ht]
    unfold l0
    congr 1
    rw [hq, hi, Nat.zero_add]

  have ho := or_bit ht r0.1 hl (by omega)
  have hp := pow_pos2 t
  have hsum := limbs_sum hW
  have hpi : (2 : Int) ^ i = 1 * (2 : Int) ^ t := by
    rw [hi, Nat.zero_add, Int.one_mul]

  have hn := limbs_of (n := q + (2 : Int) ^ i) (a := l0 q + (2 : Int) ^ t) (b := l1 q) (c := l2 q) (d := l3 q) (by omega) (by omega) (by omega) (by omega) (by rw [hpi]; omega)
  rw [hn.2.1, hn.2.2.1, hn.2.2.2.1, hn.2.2.2.2, ho.1]
  have := h.setCell (j := 0) (v := .int .u64 (l0 q + (2 : Int) ^ t))
  simpa using this

theorem put_bit_1 {u : World} {b : Nat} {q D : Int} {i t : Nat} (ht : t < 64) (hi : i = 64 + t) (hq : q = D * (2 : Int) ^ (i + 1)) (hW : W256 q) (h : Blk u b #[.int .u64 (l0 q), .int .u64 (l1 q), .int .u64 (l2 q), .int .u64 (l3 q)]) :
    Blk (u.setCell ⟨b, 1, none⟩ (.int .u64 (bits .or .u64 (l1 q) (IntKind.u64.wrap ((2 : Int) ^ t))))) b #[.int .u64 (l0 (q + (2 : Int) ^ i)), .int .u64 (l1 (q + (2 : Int) ^ i)), .int .u64 (l2 (q + (2 : Int) ^ i)), .int .u64 (l3 (q + (2 : Int) ^ i))] := by
  obtain ⟨r0, r1, r2, r3⟩ := limbs_rng q
  have hl : l1 q = (D % (2 : Int) ^ (63 - t)) * (2 : Int) ^ (t + 1) := by
    rw [← limb_mul ht]
    unfold l1
    congr 1
    rw [hq, hi]
    rw [show 64 + t + 1 = (t + 1) + 64 by omega, Int.pow_add, ← Int.mul_assoc, show (2 : Int) ^ 64 = 18446744073709551616 from by decide, Int.mul_ediv_cancel _ (by decide)]
  have ho := or_bit ht r1.1 hl (by omega)
  have hp := pow_pos2 t
  have hsum := limbs_sum hW
  have hpi : (2 : Int) ^ i = 18446744073709551616 * (2 : Int) ^ t := by
    rw [hi, Int.pow_add, show (2 : Int) ^ 64 = 18446744073709551616 from by decide]

  have hn := limbs_of (n := q + (2 : Int) ^ i) (a := l0 q) (b := l1 q + (2 : Int) ^ t) (c := l2 q) (d := l3 q) (by omega) (by omega) (by omega) (by omega) (by rw [hpi]; omega)
  rw [hn.2.1, hn.2.2.1, hn.2.2.2.1, hn.2.2.2.2, ho.1]
  have := h.setCell (j := 1) (v := .int .u64 (l1 q + (2 : Int) ^ t))
  simpa using this

theorem put_bit_2 {u : World} {b : Nat} {q D : Int} {i t : Nat} (ht : t < 64) (hi : i = 128 + t) (hq : q = D * (2 : Int) ^ (i + 1)) (hW : W256 q) (h : Blk u b #[.int .u64 (l0 q), .int .u64 (l1 q), .int .u64 (l2 q), .int .u64 (l3 q)]) :
    Blk (u.setCell ⟨b, 2, none⟩ (.int .u64 (bits .or .u64 (l2 q) (IntKind.u64.wrap ((2 : Int) ^ t))))) b #[.int .u64 (l0 (q + (2 : Int) ^ i)), .int .u64 (l1 (q + (2 : Int) ^ i)), .int .u64 (l2 (q + (2 : Int) ^ i)), .int .u64 (l3 (q + (2 : Int) ^ i))] := by
  obtain ⟨r0, r1, r2, r3⟩ := limbs_rng q
  have hl : l2 q = (D % (2 : Int) ^ (63 - t)) * (2 : Int) ^ (t + 1) := by
    rw [← limb_mul ht]
    unfold l2
    congr 1
    rw [hq, hi]
    rw [show 128 + t + 1 = (t + 1) + 128 by omega, Int.pow_add, ← Int.mul_assoc, show (2 : Int) ^ 128 = 340282366920938463463374607431768211456 from by decide, Int.mul_ediv_cancel _ (by decide)]
  have ho := or_bit ht r2.1 hl (by omega)
  have hp := pow_pos2 t
  have hsum := limbs_sum hW
  have hpi : (2 : Int) ^ i = 340282366920938463463374607431768211456 * (2 : Int) ^ t := by
    rw [hi, Int.pow_add, show (2 : Int) ^ 128 = 340282366920938463463374607431768211456 from by decide]

  have hn := limbs_of (n := q + (2 : Int) ^ i) (a := l0 q) (b := l1 q) (c := l2 q + (2 : Int) ^ t) (d := l3 q) (by omega) (by omega) (by omega) (by omega) (by rw [hpi]; omega)
  rw [hn.2.1, hn.2.2.1, hn.2.2.2.1, hn.2.2.2.2, ho.1]
  have := h.setCell (j := 2) (v := .int .u64 (l2 q + (2 : Int) ^ t))
  simpa using this

theorem put_bit_3 {u : World} {b : Nat} {q D : Int} {i t : Nat} (ht : t < 64) (hi : i = 192 + t) (hq : q = D * (2 : Int) ^ (i + 1)) (hW : W256 q) (h : Blk u b #[.int .u64 (l0 q), .int .u64 (l1 q), .int .u64 (l2 q), .int .u64 (l3 q)]) :
    Blk (u.setCell ⟨b, 3, none⟩ (.int .u64 (bits .or .u64 (l3 q) (IntKind.u64.wrap ((2 : Int) ^ t))))) b #[.int .u64 (l0 (q + (2 : Int) ^ i)), .int .u64 (l1 (q + (2 : Int) ^ i)), .int .u64 (l2 (q + (2 : Int) ^ i)), .int .u64 (l3 (q + (2 : Int) ^ i))] := by
  obtain ⟨r0, r1, r2, r3⟩ := limbs_rng q
  have hl : l3 q = (D % (2 : Int) ^ (63 - t)) * (2 : Int) ^ (t + 1) := by
    rw [← limb_mul ht]
    unfold l3
    congr 1
    rw [hq, hi]
    rw [show 192 + t + 1 = (t + 1) + 192 by omega, Int.pow_add, ← Int.mul_assoc, show (2 : Int) ^ 192 = 6277101735386680763835789423207666416102355444464034512896 from by decide, Int.mul_ediv_cancel _ (by decide)]
  have ho := or_bit ht r3.1 hl (by omega)
  have hp := pow_pos2 t
  have hsum := limbs_sum hW
  have hpi : (2 : Int) ^ i = 6277101735386680763835789423207666416102355444464034512896 * (2 : Int) ^ t := by
    rw [hi, Int.pow_add, show (2 : Int) ^ 192 = 6277101735386680763835789423207666416102355444464034512896 from by decide]

  have hn := limbs_of (n := q + (2 : Int) ^ i) (a := l0 q) (b := l1 q) (c := l2 q) (d := l3 q + (2 : Int) ^ t) (by omega) (by omega) (by omega) (by omega) (by rw [hpi]; omega)
  rw [hn.2.1, hn.2.2.1, hn.2.2.2.1, hn.2.2.2.2, ho.1]
  have := h.setCell (j := 3) (v := .int .u64 (l3 q + (2 : Int) ^ t))
  simpa using this

set_option maxHeartbeats 8000000 in
theorem rdiv_loop (n k : Int) (hn : W256 n) (hk0 : 0 < k) (hk2 : k ≤ 18446744073709551615) (w : World) :
    Calls Try.prog 38 #[.agg #[.int .u64 (l0 (n)), .int .u64 (l1 (n)), .int .u64 (l2 (n)), .int .u64 (l3 (n))], .int .u64 k] w fun e w' => e = .returned (.tuple #[.agg #[.int .u64 (l0 (divQ n k)), .int .u64 (l1 (divQ n k)), .int .u64 (l2 (divQ n k)), .int .u64 (l3 (divQ n k))], .int .u64 (divR n k), .int .i64 (divE k)]) ∧ Below w.heap.size w w' := by
  have hkb : (k == 0) = false := by simp; omega
  go_enter Try.func38, Try.ntmps38
  go_wp2_with fail
  go_loopw [8, 9] (fun r i wr => DivI w n k r i wr) (fun _ i _ => (intOf i + 1).toNat)
  case atStart =>
    have e : n / (2 : Int) ^ 256 = 0 := Int.ediv_eq_zero_of_lt hn.1 (by rw [show (2 : Int) ^ 256 = 115792089237316195423570985008687907853269984665640564039457584007913129639936 from by decide]; exact hn.2)
    refine ⟨256, 0, 0, by omega, rfl, rfl, by rw [e]; simp, by rw [e]; simp, ?_, ((Blk.new rfl).alloc _).alloc _, (Blk.new (by simp)).alloc _, ?_⟩
    · exact (((Below.refl _ _).alloc (Nat.le_refl _) _).alloc (by simp) _).alloc (by simp; omega) _
    · rw [limbs_zero.1, limbs_zero.2.1, limbs_zero.2.2.1, limbs_zero.2.2.2]; exact Blk.new (by simp)
  case round =>
    obtain ⟨c, rv, q, hc, rfl, rfl, hr, hq, hb, bA, bR, bQ⟩ := hrel
    have hqW : W256 q := by
      have h0 : 0 ≤ n / (2 : Int) ^ c := Int.ediv_nonneg hn.1 (Int.le_of_lt (pow_pos2 c))
      have h1 : n / (2 : Int) ^ c / k ≤ n / (2 : Int) ^ c := Int.ediv_le_self _ h0
      have h2 : n / (2 : Int) ^ c * (2 : Int) ^ c ≤ n := Int.ediv_mul_le _ (by have := pow_pos2 c; omega)
      have h3 := Int.mul_le_mul_of_nonneg_right h1 (Int.le_of_lt (pow_pos2 c))
      have h4 : 0 ≤ n / (2 : Int) ^ c / k * (2 : Int) ^ c := Int.mul_nonneg (Int.ediv_nonneg h0 (by omega)) (Int.le_of_lt (pow_pos2 c))
      rw [← hq] at h3 h4
      have := hn.2
      exact ⟨h4, by omega⟩
    rcases Nat.eq_zero_or_pos c with rfl | hcp
    · have E1 := Lib.hid (show divQ n k = q by rw [hq]; unfold divQ; rw [if_neg (by omega)]; simp)
      have E2 := Lib.hid (show divR n k = rv by rw [hr]; unfold divR; rw [if_neg (by omega)]; simp)
      have E3 := Lib.hid (show divE k = 0 from if_neg (by omega))
      obtain ⟨z0, z1, z2, z3, z4⟩ := bR.four
      obtain ⟨q0, q1, q2, q3, q4⟩ := bQ.four
      clear hr hq
      go_wp2_with fail
      refine bodyPost_ret (res_cell_tmp2 rfl rfl rfl rfl bR.store4 Try.underlying24 rfl (by kernel_rfl)) rfl ⟨by rw [E1.out, E2.out, E3.out]; rfl, ?_⟩
      exact below_store4 hb (by omega)
    · obtain ⟨i, rfl⟩ : ∃ i, c = i + 1 := ⟨c - 1, by omega⟩
      have ei : ((i + 1 : Nat) : Int) - 1 = i := by omega
      rw [ei]
      obtain ⟨R0, R1, RL, RH⟩ := div_round (n := n) hk0 i
      rw [← hr] at R0 R1 RL RH
      have DB := Lib.hid (bit_any n i hn (by omega))
      have hbv := bitN_rng n i
      obtain ⟨bv, eb⟩ : ∃ b, bitN n i = b := ⟨_, rfl⟩
      rw [eb] at DB hbv RL RH
      obtain ⟨hbv0, hbv1⟩ := hbv
      obtain ⟨a0, a1, a2, a3, a4⟩ := bA.four
      have hj4 : i / 64 = 0 ∨ i / 64 = 1 ∨ i / 64 = 2 ∨ i / 64 = 3 := by omega
      obtain ⟨t, ht⟩ : ∃ t, i % 64 = t := ⟨_, rfl⟩
      have hm : (i : Int).tmod 64 = t := by rw [Int.tmod_eq_emod_of_nonneg (by omega)]; omega
      have hm' : (i : Int) % 64 = t := by omega
      have htl : t < 64 := by omega
      have hi0 : (0 : Int) ≤ i := by omega
      have hor : bits .or .u64 (rv * 2) bv = rv * 2 + bv ∨ 9223372036854775808 ≤ rv := by
        rcases Int.lt_or_le rv 9223372036854775808 with h | h
        · left
          obtain ⟨x, rfl⟩ := Int.eq_ofNat_of_zero_le R0
          obtain ⟨y, rfl⟩ := Int.eq_ofNat_of_zero_le hbv0
          have := or_low 1 x y (by omega) (by omega)
          rw [show x * 2 ^ 1 = x * 2 by omega] at this
          exact_mod_cast this
        · exact .inr h
      by_cases hover : 9223372036854775808 ≤ rv
      · have ho : (rv / 9223372036854775808 == 1) = true := by simp; omega
        have hge : k ≤ 2 * rv + bv := by omega
        obtain ⟨e1, e2⟩ := RH hge
        obtain ⟨z, ez⟩ : ∃ z, IntKind.u64.wrap (rv * 2) = z := ⟨_, rfl⟩
        have ez' : z = rv * 2 - 18446744073709551616 := by rw [← ez, IntKind.wrap_u64]; omega
        have hrm : bits .or .u64 z bv = z + bv := by
          obtain ⟨x, hx⟩ := Int.eq_ofNat_of_zero_le (show 0 ≤ rv - 9223372036854775808 by omega)
          obtain ⟨y, rfl⟩ := Int.eq_ofNat_of_zero_le hbv0
          have := or_low 1 x y (by omega) (by omega)
          rw [show x * 2 ^ 1 = x * 2 by omega] at this
          have e : z = ((x * 2 : Nat) : Int) := by omega
          rw [e, this]; omega
        obtain ⟨rm, erm⟩ : ∃ x, z + bv = x := ⟨_, rfl⟩
        rw [erm] at hrm
        obtain ⟨r', er'⟩ : ∃ x, IntKind.u64.wrap (rm - k) = x := ⟨_, rfl⟩
        have er2 : r' = n / (2 : Int) ^ i % k := by rw [e1, ← er', IntKind.wrap_u64]; omega
        have HR2 := Lib.hid er2
        have HQ := Lib.hid hq
        have HQ2 := Lib.hid (show n / (2 : Int) ^ i / k * (2 : Int) ^ i = q + (2 : Int) ^ i by rw [e2, hq, Int.add_mul, Int.one_mul, Int.pow_succ, Int.mul_comm 2, Int.mul_assoc, Int.mul_comm 2])
        clear hor er2 ez' erm e1 e2 hr hq RL RH eb ei
        rcases hj4 with hj | hj | hj | hj
        · have hd : (i : Int).tdiv 64 = 0 := by rw [Int.tdiv_eq_ediv_of_nonneg (by omega)]; omega
          have hd' : (i : Int) / 64 = 0 := by omega
          have hit : i = 0 + t := by omega
          have HIT := Lib.hid hit; clear hit hj ht
          go_wp2_with (go_at_call 53; refine (DB.out _).mono ?_; rintro e w1 ⟨rfl, hb1⟩; obtain ⟨q0, q1, q2, q3, q4⟩ := (bQ.call hb1).four)
          go_roundw
          case rel =>
            refine ⟨i, _, q + (2 : Int) ^ i, by omega, rfl, rfl, HR2.out, by rw [HQ2.out], (bel0 hb hb1).setCell (by simp; omega) _, (bA.call hb1).setCell_other (by omega), (bR.call hb1).setCell_other (by omega), put_bit_0 htl HIT.out HQ.out hqW (bQ.call hb1)⟩
          case measure => simp [intOf]
        · have hd : (i : Int).tdiv 64 = 1 := by rw [Int.tdiv_eq_ediv_of_nonneg (by omega)]; omega
          have hd' : (i : Int) / 64 = 1 := by omega
          have hit : i = 64 + t := by omega
          have HIT := Lib.hid hit; clear hit hj ht
          go_wp2_with (go_at_call 53; refine (DB.out _).mono ?_; rintro e w1 ⟨rfl, hb1⟩; obtain ⟨q0, q1, q2, q3, q4⟩ := (bQ.call hb1).four)
          go_roundw
          case rel =>
            refine ⟨i, _, q + (2 : Int) ^ i, by omega, rfl, rfl, HR2.out, by rw [HQ2.out], (bel0 hb hb1).setCell (by simp; omega) _, (bA.call hb1).setCell_other (by omega), (bR.call hb1).setCell_other (by omega), put_bit_1 htl HIT.out HQ.out hqW (bQ.call hb1)⟩
          case measure => simp [intOf]
        · have hd : (i : Int).tdiv 64 = 2 := by rw [Int.tdiv_eq_ediv_of_nonneg (by omega)]; omega
          have hd' : (i : Int) / 64 = 2 := by omega
          have hit : i = 128 + t := by omega
          have HIT := Lib.hid hit; clear hit hj ht
          go_wp2_with (go_at_call 53; refine (DB.out _).mono ?_; rintro e w1 ⟨rfl, hb1⟩; obtain ⟨q0, q1, q2, q3, q4⟩ := (bQ.call hb1).four)
          go_roundw
          case rel =>
            refine ⟨i, _, q + (2 : Int) ^ i, by omega, rfl, rfl, HR2.out, by rw [HQ2.out], (bel0 hb hb1).setCell (by simp; omega) _, (bA.call hb1).setCell_other (by omega), (bR.call hb1).setCell_other (by omega), put_bit_2 htl HIT.out HQ.out hqW (bQ.call hb1)⟩
          case measure => simp [intOf]
        · have hd : (i : Int).tdiv 64 = 3 := by rw [Int.tdiv_eq_ediv_of_nonneg (by omega)]; omega
          have hd' : (i : Int) / 64 = 3 := by omega
          have hit : i = 192 + t := by omega
          have HIT := Lib.hid hit; clear hit hj ht
          go_wp2_with (go_at_call 53; refine (DB.out _).mono ?_; rintro e w1 ⟨rfl, hb1⟩; obtain ⟨q0, q1, q2, q3, q4⟩ := (bQ.call hb1).four)
          go_roundw
          case rel =>
            refine ⟨i, _, q + (2 : Int) ^ i, by omega, rfl, rfl, HR2.out, by rw [HQ2.out], (bel0 hb hb1).setCell (by simp; omega) _, (bA.call hb1).setCell_other (by omega), (bR.call hb1).setCell_other (by omega), put_bit_3 htl HIT.out HQ.out hqW (bQ.call hb1)⟩
          case measure => simp [intOf]
      · have ho : (rv / 9223372036854775808 == 1) = false := by simp; omega
        have hrm : bits .or .u64 (rv * 2) bv = rv * 2 + bv := by
          rcases hor with h | h
          · exact h
          · exact absurd h hover
        obtain ⟨rm, erm⟩ : ∃ x, rv * 2 + bv = x := ⟨_, rfl⟩
        rw [erm] at hrm
        have hrm0 : 0 ≤ rm := by omega
        have hrm1 : rm ≤ 18446744073709551615 := by omega
        have hrv2 : rv < 9223372036854775808 := by omega
        by_cases hge : k ≤ rm
        · obtain ⟨e1, e2⟩ := RH (by omega)
          have HR2 := Lib.hid (show rm - k = n / (2 : Int) ^ i % k by rw [e1]; omega)
          have HQ := Lib.hid hq
          have HQ2 := Lib.hid (show n / (2 : Int) ^ i / k * (2 : Int) ^ i = q + (2 : Int) ^ i by rw [e2, hq, Int.add_mul, Int.one_mul, Int.pow_succ, Int.mul_comm 2, Int.mul_assoc, Int.mul_comm 2])
          clear hor erm e1 e2 hr hq RL RH eb ei hover
          rcases hj4 with hj | hj | hj | hj
          · have hd : (i : Int).tdiv 64 = 0 := by rw [Int.tdiv_eq_ediv_of_nonneg (by omega)]; omega
            have hd' : (i : Int) / 64 = 0 := by omega
            have hit : i = 0 + t := by omega
            have HIT := Lib.hid hit; clear hit hj ht
            go_wp2_with (go_at_call 53; refine (DB.out _).mono ?_; rintro e w1 ⟨rfl, hb1⟩; obtain ⟨q0, q1, q2, q3, q4⟩ := (bQ.call hb1).four)
            go_roundw
            case rel =>
              refine ⟨i, _, q + (2 : Int) ^ i, by omega, rfl, rfl, HR2.out, by rw [HQ2.out], (bel0 hb hb1).setCell (by simp; omega) _, (bA.call hb1).setCell_other (by omega), (bR.call hb1).setCell_other (by omega), put_bit_0 htl HIT.out HQ.out hqW (bQ.call hb1)⟩
            case measure => simp [intOf]
          · have hd : (i : Int).tdiv 64 = 1 := by rw [Int.tdiv_eq_ediv_of_nonneg (by omega)]; omega
            have hd' : (i : Int) / 64 = 1 := by omega
            have hit : i = 64 + t := by omega
            have HIT := Lib.hid hit; clear hit hj ht
            go_wp2_with (go_at_call 53; refine (DB.out _).mono ?_; rintro e w1 ⟨rfl, hb1⟩; obtain ⟨q0, q1, q2, q3, q4⟩ := (bQ.call hb1).four)
            go_roundw
            case rel =>
              refine ⟨i, _, q + (2 : Int) ^ i, by omega, rfl, rfl, HR2.out, by rw [HQ2.out], (bel0 hb hb1).setCell (by simp; omega) _, (bA.call hb1).setCell_other (by omega), (bR.call hb1).setCell_other (by omega), put_bit_1 htl HIT.out HQ.out hqW (bQ.call hb1)⟩
            case measure => simp [intOf]
          · have hd : (i : Int).tdiv 64 = 2 := by rw [Int.tdiv_eq_ediv_of_nonneg (by omega)]; omega
            have hd' : (i : Int) / 64 = 2 := by omega
            have hit : i = 128 + t := by omega
            have HIT := Lib.hid hit; clear hit hj ht
            go_wp2_with (go_at_call 53; refine (DB.out _).mono ?_; rintro e w1 ⟨rfl, hb1⟩; obtain ⟨q0, q1, q2, q3, q4⟩ := (bQ.call hb1).four)
            go_roundw
            case rel =>
              refine ⟨i, _, q + (2 : Int) ^ i, by omega, rfl, rfl, HR2.out, by rw [HQ2.out], (bel0 hb hb1).setCell (by simp; omega) _, (bA.call hb1).setCell_other (by omega), (bR.call hb1).setCell_other (by omega), put_bit_2 htl HIT.out HQ.out hqW (bQ.call hb1)⟩
            case measure => simp [intOf]
          · have hd : (i : Int).tdiv 64 = 3 := by rw [Int.tdiv_eq_ediv_of_nonneg (by omega)]; omega
            have hd' : (i : Int) / 64 = 3 := by omega
            have hit : i = 192 + t := by omega
            have HIT := Lib.hid hit; clear hit hj ht
            go_wp2_with (go_at_call 53; refine (DB.out _).mono ?_; rintro e w1 ⟨rfl, hb1⟩; obtain ⟨q0, q1, q2, q3, q4⟩ := (bQ.call hb1).four)
            go_roundw
            case rel =>
              refine ⟨i, _, q + (2 : Int) ^ i, by omega, rfl, rfl, HR2.out, by rw [HQ2.out], (bel0 hb hb1).setCell (by simp; omega) _, (bA.call hb1).setCell_other (by omega), (bR.call hb1).setCell_other (by omega), put_bit_3 htl HIT.out HQ.out hqW (bQ.call hb1)⟩
            case measure => simp [intOf]
        · obtain ⟨e1, e2⟩ := RL (by omega)
          have HR2 := Lib.hid (show rm = n / (2 : Int) ^ i % k by rw [e1]; omega)
          have HQ2 := Lib.hid (show n / (2 : Int) ^ i / k * (2 : Int) ^ i = q by rw [e2, hq, Int.pow_succ, Int.mul_comm 2, Int.mul_assoc, Int.mul_comm 2])
          clear hor erm e1 e2 hr hq RL RH eb ei hover hj4 ht
          go_wp2_with (go_at_call 53; refine (DB.out _).mono ?_; rintro e w1 ⟨rfl, hb1⟩; obtain ⟨q0, q1, q2, q3, q4⟩ := (bQ.call hb1).four)
          go_roundw
          case rel => exact ⟨i, _, q, by omega, rfl, rfl, HR2.out, HQ2.out.symm, bel0 hb hb1, bA.call hb1, bR.call hb1, bQ.call hb1⟩
          case measure => simp [intOf]

theorem rdiv_any (n k : Int) (hn : W256 n) (hk0 : 0 ≤ k) (hk2 : k ≤ 18446744073709551615) (w : World) :
    Calls Try.prog 38 #[.agg #[.int .u64 (l0 (n)), .int .u64 (l1 (n)), .int .u64 (l2 (n)), .int .u64 (l3 (n))], .int .u64 k] w fun e w' => e = .returned (.tuple #[.agg #[.int .u64 (l0 (divQ n k)), .int .u64 (l1 (divQ n k)), .int .u64 (l2 (divQ n k)), .int .u64 (l3 (divQ n k))], .int .u64 (divR n k), .int .i64 (divE k)]) ∧ Below w.heap.size w w' := by
  by_cases hk : k = 0
  · subst hk
    have e1 : divQ n 0 = 0 := rfl
    have e2 : divR n 0 = 0 := rfl
    have e3 : divE 0 = 7 := rfl
    rw [e1, e2, e3]
    go_enter Try.func38, Try.ntmps38
    go_wp2_with fail
    refine bodyPost_ret (v := .tuple #[.agg #[.int .u64 0, .int .u64 0, .int .u64 0, .int .u64 0], .int .u64 0, .int .i64 7]) (by simp [results, Try.results38, go_sem]) rfl ⟨by rw [limbs_zero.1, limbs_zero.2.1, limbs_zero.2.2.1, limbs_zero.2.2.2], ?_⟩
    exact ((Below.refl _ _).alloc (Nat.le_refl _) _).alloc (by simp) _
  · exact rdiv_loop n k hn (by omega) hk2 w

end Go.Proofs.Ytgleleccmpncnaa
