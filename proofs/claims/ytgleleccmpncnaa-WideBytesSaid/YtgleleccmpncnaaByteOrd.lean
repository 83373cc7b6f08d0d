/- The bytewise order of two numbers' bytes is the numbers' order. -/
import Derived.Test.YtgleleccmpncnaaFromB
import Derived.Test.YtgleleccmpncnaaWide4
set_option linter.unusedVariables false
namespace Go.Proofs.Ytgleleccmpncnaa
open Go.RowKit

theorem cmpB_bytes_aux (a b : Int) : ∀ k, k ≤ 32 → cmpB ((bytesN a).drop (32 - k)) ((bytesN b).drop (32 - k)) = cmpN (a % (2 : Int) ^ (8 * k)) (b % (2 : Int) ^ (8 * k))
  | 0, _ => by
    rw [List.drop_of_length_le (by rw [(bytesN_is a).1]; omega)]
    simp [Int.emod_one, cmpB, cmpN]
  | k + 1, hk => by
    have ih := cmpB_bytes_aux a b k (by omega)
    have hd := cmpB_drop (k := 32 - (k + 1)) (bytesN_is a).1 (bytesN_is b).1 (by omega)
    have e1 := bytesN_at a (k := k) (by omega)
    have e2 := bytesN_at b (k := k) (by omega)
    rw [show 31 - k = 32 - (k + 1) by omega] at e1 e2
    rw [e1, e2, show 32 - (k + 1) + 1 = 32 - k by omega, ih] at hd
    rw [hd, mod_byte, mod_byte]
    have hp := pow_pos2 (8 * k)
    have a1 := Int.emod_nonneg a (show (2 : Int) ^ (8 * k) ≠ 0 by omega)
    have a2 := Int.emod_lt_of_pos a hp
    have b1 := Int.emod_nonneg b (show (2 : Int) ^ (8 * k) ≠ 0 by omega)
    have b2 := Int.emod_lt_of_pos b hp
    generalize a % (2 : Int) ^ (8 * k) = x at *
    generalize b % (2 : Int) ^ (8 * k) = y at *
    generalize byteN a k = p at *
    generalize byteN b k = q at *
    generalize (2 : Int) ^ (8 * k) = P at *
    rcases Int.lt_trichotomy p q with h | h | h
    · have h1 : (p + 1) * P ≤ q * P := Int.mul_le_mul_of_nonneg_right (by omega) (by omega)
      rw [Int.add_mul, Int.one_mul] at h1
      rw [if_pos h]
      unfold cmpN
      rw [if_pos (by omega)]
    · subst h
      rw [if_neg (by omega), if_neg (by omega)]
      unfold cmpN
      have t1 : (x + p * P < y + p * P) = (x < y) := propext ⟨fun h => by omega, fun h => by omega⟩
      have t2 : (y + p * P < x + p * P) = (y < x) := propext ⟨fun h => by omega, fun h => by omega⟩
      simp only [t1, t2]
    · have h1 : (q + 1) * P ≤ p * P := Int.mul_le_mul_of_nonneg_right (by omega) (by omega)
      rw [Int.add_mul, Int.one_mul] at h1
      rw [if_neg (by omega), if_pos h]
      unfold cmpN
      rw [if_neg (by omega), if_pos (by omega)]

theorem cmpB_bytes {a b : Int} (ha : W256 a) (hb : W256 b) : cmpB (bytesN a) (bytesN b) = cmpN a b := by
  have h := cmpB_bytes_aux a b 32 (Nat.le_refl _)
  rw [Nat.sub_self, List.drop_zero, List.drop_zero, show (2 : Int) ^ (8 * 32) = 115792089237316195423570985008687907853269984665640564039457584007913129639936 from by decide, Int.emod_eq_of_lt ha.1 ha.2, Int.emod_eq_of_lt hb.1 hb.2] at h
  exact h

theorem bytes_wf (n : Int) : ∀ x ∈ bytesN n, (Lit.int .u8 x).wf = true := (bytesN_is n).2

theorem eq_bytes (n : Int) (w : World) : Sem.run Try.prog (Op.equalIn 10000 31 (.agg ((bytesN n).map (Value.int .u8)).toArray) (.agg ((bytesN n).map (Value.int .u8)).toArray)) w = .ok true w := by
  have h := eq_ints (P := Try.prog) (t := 31) (e := 5) (n := 32) (k := .u8) (by kernel_rfl) (by kernel_rfl) (by kernel_rfl) (by kernel_rfl) (by kernel_rfl) (bytesN n) (bytesN n) (bytesN_is n).1 (bytesN_is n).1 (bytes_wf n) (bytes_wf n) w
  rw [h]; simp

end Go.Proofs.Ytgleleccmpncnaa
