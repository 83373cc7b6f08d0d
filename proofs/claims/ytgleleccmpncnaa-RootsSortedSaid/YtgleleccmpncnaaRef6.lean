/- Contract of the reference's bit: bit i of a number. -/
import Derived.Test.YtgleleccmpncnaaRef0
import Derived.Test.YtgleleccmpncnaaEq
set_option linter.unusedVariables false
namespace Go.Proofs.Ytgleleccmpncnaa
open Go.RowKit

theorem and1 (x : Int) (h0 : 0 ≤ x) (h : x < 18446744073709551616) : bits .and .u64 x 1 = x % 2 := by
  obtain ⟨a, rfl⟩ := Int.eq_ofNat_of_zero_le h0
  have := bits_and_u64_nat a 1 (by omega) (by omega)
  rw [show ((1 : Nat) : Int) = 1 from rfl] at this
  rw [this, Nat.and_one_is_mod]
  simp

theorem pow_pos2 (k : Nat) : (0 : Int) < (2 : Int) ^ k := Int.pow_pos (by omega)

theorem pow_split {t : Nat} (ht : t < 64) : (18446744073709551616 : Int) = (2 : Int) ^ t * ((2 : Int) ^ (63 - t) * 2) := by
  rw [← Int.pow_succ, ← Int.pow_add, show t + (63 - t + 1) = 64 by omega]; rfl

theorem low_bit (m : Int) (t : Nat) (ht : t < 64) : m % 18446744073709551616 / (2 : Int) ^ t % 2 = m / (2 : Int) ^ t % 2 := by
  have hB := pow_split ht
  have hp := pow_pos2 t
  have h := Int.mul_ediv_add_emod m 18446744073709551616
  generalize (2 : Int) ^ t = P at *
  generalize (2 : Int) ^ (63 - t) = Q at *
  have e : m / P = (m % 18446744073709551616) / P + Q * 2 * (m / 18446744073709551616) := by
    conv => lhs; rw [← h, Int.add_comm, hB, Int.mul_assoc P, Int.add_mul_ediv_left _ _ (by omega)]
    rw [hB]
  rw [e, show Q * 2 * (m / 18446744073709551616) = 2 * (Q * (m / 18446744073709551616)) by rw [Int.mul_comm Q, Int.mul_assoc], Int.add_mul_emod_self_left]

/-- Bit i. -/
def bitN (n : Int) (i : Nat) : Int := n / (2 : Int) ^ i % 2

theorem bitN_rng (n : Int) (i : Nat) : 0 ≤ bitN n i ∧ bitN n i ≤ 1 := by unfold bitN; omega

theorem div_le_self' (x : Int) (t : Nat) (h : 0 ≤ x) : 0 ≤ x / (2 : Int) ^ t ∧ x / (2 : Int) ^ t ≤ x := ⟨Int.ediv_nonneg h (Int.le_of_lt (pow_pos2 t)), Int.ediv_le_self _ h⟩

set_option maxHeartbeats 400000 in
theorem bit_0 (n iv : Int) (t : Nat) (hn : W256 n) (h0 : 0 ≤ iv) (h1 : iv < 256) (hd : iv.tdiv 64 = 0) (hd' : iv / 64 = 0) (hm : iv.tmod 64 = t) (hm' : iv % 64 = t) (ht : t < 64) (w : World) :
    Calls Try.prog 53 #[.agg #[.int .u64 (l0 (n)), .int .u64 (l1 (n)), .int .u64 (l2 (n)), .int .u64 (l3 (n))], .int .i64 iv] w fun e w' => e = .returned (.int .u64 (bitN n (0 + t))) ∧ Below w.heap.size w w' := by
  have hr := (limbs_rng n).1
  have hq := div_le_self' (l0 n) t hr.1
  have e : bits .and .u64 (l0 n / (2 : Int) ^ t) 1 = bitN n (0 + t) := by
    rw [and1 _ hq.1 (by omega)]
    unfold l0 bitN
    rw [low_bit _ t ht]
    rw [Nat.zero_add]
  obtain ⟨b, eb⟩ : ∃ b, bitN n (0 + t) = b := ⟨_, rfl⟩
  rw [eb] at e
  rw [eb]
  clear eb hq hr
  go_enter Try.func53, Try.ntmps53
  go_wp2_with fail
  go_ret
  exact ⟨rfl, (Below.refl _ _).alloc (Nat.le_refl _) _⟩

set_option maxHeartbeats 400000 in
theorem bit_1 (n iv : Int) (t : Nat) (hn : W256 n) (h0 : 0 ≤ iv) (h1 : iv < 256) (hd : iv.tdiv 64 = 1) (hd' : iv / 64 = 1) (hm : iv.tmod 64 = t) (hm' : iv % 64 = t) (ht : t < 64) (w : World) :
    Calls Try.prog 53 #[.agg #[.int .u64 (l0 (n)), .int .u64 (l1 (n)), .int .u64 (l2 (n)), .int .u64 (l3 (n))], .int .i64 iv] w fun e w' => e = .returned (.int .u64 (bitN n (64 + t))) ∧ Below w.heap.size w w' := by
  have hr := (limbs_rng n).2.1
  have hq := div_le_self' (l1 n) t hr.1
  have e : bits .and .u64 (l1 n / (2 : Int) ^ t) 1 = bitN n (64 + t) := by
    rw [and1 _ hq.1 (by omega)]
    unfold l1 bitN
    rw [low_bit _ t ht, Int.pow_add, ← Int.ediv_ediv_of_nonneg (Int.le_of_lt (pow_pos2 _))]
    rw [show (2 : Int) ^ 64 = 18446744073709551616 from by decide]
  obtain ⟨b, eb⟩ : ∃ b, bitN n (64 + t) = b := ⟨_, rfl⟩
  rw [eb] at e
  rw [eb]
  clear eb hq hr
  go_enter Try.func53, Try.ntmps53
  go_wp2_with fail
  go_ret
  exact ⟨rfl, (Below.refl _ _).alloc (Nat.le_refl _) _⟩

set_option maxHeartbeats 400000 in
theorem bit_2 (n iv : Int) (t : Nat) (hn : W256 n) (h0 : 0 ≤ iv) (h1 : iv < 256) (hd : iv.tdiv 64 = 2) (hd' : iv / 64 = 2) (hm : iv.tmod 64 = t) (hm' : iv % 64 = t) (ht : t < 64) (w : World) :
    Calls Try.prog 53 #[.agg #[.int .u64 (l0 (n)), .int .u64 (l1 (n)), .int .u64 (l2 (n)), .int .u64 (l3 (n))], .int .i64 iv] w fun e w' => e = .returned (.int .u64 (bitN n (128 + t))) ∧ Below w.heap.size w w' := by
  have hr := (limbs_rng n).2.2.1
  have hq := div_le_self' (l2 n) t hr.1
  have e : bits .and .u64 (l2 n / (2 : Int) ^ t) 1 = bitN n (128 + t) := by
    rw [and1 _ hq.1 (by omega)]
    unfold l2 bitN
    rw [low_bit _ t ht, Int.pow_add, ← Int.ediv_ediv_of_nonneg (Int.le_of_lt (pow_pos2 _))]
    rw [show (2 : Int) ^ 128 = 340282366920938463463374607431768211456 from by decide]
  obtain ⟨b, eb⟩ : ∃ b, bitN n (128 + t) = b := ⟨_, rfl⟩
  rw [eb] at e
  rw [eb]
  clear eb hq hr
  go_enter Try.func53, Try.ntmps53
  go_wp2_with fail
  go_ret
  exact ⟨rfl, (Below.refl _ _).alloc (Nat.le_refl _) _⟩

set_option maxHeartbeats 400000 in
theorem bit_3 (n iv : Int) (t : Nat) (hn : W256 n) (h0 : 0 ≤ iv) (h1 : iv < 256) (hd : iv.tdiv 64 = 3) (hd' : iv / 64 = 3) (hm : iv.tmod 64 = t) (hm' : iv % 64 = t) (ht : t < 64) (w : World) :
    Calls Try.prog 53 #[.agg #[.int .u64 (l0 (n)), .int .u64 (l1 (n)), .int .u64 (l2 (n)), .int .u64 (l3 (n))], .int .i64 iv] w fun e w' => e = .returned (.int .u64 (bitN n (192 + t))) ∧ Below w.heap.size w w' := by
  have hr := (limbs_rng n).2.2.2
  have hq := div_le_self' (l3 n) t hr.1
  have e : bits .and .u64 (l3 n / (2 : Int) ^ t) 1 = bitN n (192 + t) := by
    rw [and1 _ hq.1 (by omega)]
    unfold l3 bitN
    rw [low_bit _ t ht, Int.pow_add, ← Int.ediv_ediv_of_nonneg (Int.le_of_lt (pow_pos2 _))]
    rw [show (2 : Int) ^ 192 = 6277101735386680763835789423207666416102355444464034512896 from by decide]
  obtain ⟨b, eb⟩ : ∃ b, bitN n (192 + t) = b := ⟨_, rfl⟩
  rw [eb] at e
  rw [eb]
  clear eb hq hr
  go_enter Try.func53, Try.ntmps53
  go_wp2_with fail
  go_ret
  exact ⟨rfl, (Below.refl _ _).alloc (Nat.le_refl _) _⟩

theorem bit_any (n : Int) (i : Nat) (hn : W256 n) (hi : i < 256) (w : World) :
    Calls Try.prog 53 #[.agg #[.int .u64 (l0 (n)), .int .u64 (l1 (n)), .int .u64 (l2 (n)), .int .u64 (l3 (n))], .int .i64 i] w fun e w' => e = .returned (.int .u64 (bitN n i)) ∧ Below w.heap.size w w' := by
  have hd : (i : Int).tdiv 64 = (i / 64 : Nat) := by rw [Int.tdiv_eq_ediv_of_nonneg (by omega)]; omega
  have hm : (i : Int).tmod 64 = (i % 64 : Nat) := by rw [Int.tmod_eq_emod_of_nonneg (by omega)]; omega
  have hs := Nat.div_add_mod i 64
  have ht : i % 64 < 64 := Nat.mod_lt _ (by omega)
  have hc : i / 64 = 0 ∨ i / 64 = 1 ∨ i / 64 = 2 ∨ i / 64 = 3 := by omega
  rcases hc with h | h | h | h
  · rw [h] at hd hs
    have := bit_0 n i (i % 64) hn (by omega) (by omega) hd (by omega) hm (by omega) ht w
    rw [show 0 + i % 64 = i by omega] at this
    exact this
  · rw [h] at hd hs
    have := bit_1 n i (i % 64) hn (by omega) (by omega) hd (by omega) hm (by omega) ht w
    rw [show 64 + i % 64 = i by omega] at this
    exact this
  · rw [h] at hd hs
    have := bit_2 n i (i % 64) hn (by omega) (by omega) hd (by omega) hm (by omega) ht w
    rw [show 128 + i % 64 = i by omega] at this
    exact this
  · rw [h] at hd hs
    have := bit_3 n i (i % 64) hn (by omega) (by omega) hd (by omega) hm (by omega) ht w
    rw [show 192 + i % 64 = i by omega] at this
    exact this

end Go.Proofs.Ytgleleccmpncnaa
