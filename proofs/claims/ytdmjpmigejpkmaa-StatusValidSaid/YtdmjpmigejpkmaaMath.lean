/- Numbers: the limbs of a 256-bit number, and the long division of two words by one (Knuth's algorithm D). No program. -/
import Derived.Test.YtdmjpmigejpkmaaBase
import Derived.Laws.Bits64b
import Derived.Lib.BitFns
set_option linter.unusedVariables false
namespace Go.Proofs.Ytdmjpmigejpkmaa
open Go.RowKit

/-- The four limbs of a number. -/
def l0 (n : Int) : Int := n % 18446744073709551616

def l1 (n : Int) : Int := n / 18446744073709551616 % 18446744073709551616

def l2 (n : Int) : Int := n / 340282366920938463463374607431768211456 % 18446744073709551616

def l3 (n : Int) : Int := n / 6277101735386680763835789423207666416102355444464034512896 % 18446744073709551616

/-- A number of 256 bits. -/
def W256 (n : Int) : Prop := 0 ≤ n ∧ n < 115792089237316195423570985008687907853269984665640564039457584007913129639936

theorem limbs_rng (n : Int) : (0 ≤ l0 n ∧ l0 n ≤ 18446744073709551615) ∧ (0 ≤ l1 n ∧ l1 n ≤ 18446744073709551615) ∧ (0 ≤ l2 n ∧ l2 n ≤ 18446744073709551615) ∧ (0 ≤ l3 n ∧ l3 n ≤ 18446744073709551615) := by
  unfold l0 l1 l2 l3; omega

theorem limbs_sum {n : Int} (h : W256 n) : n = l0 n + 18446744073709551616 * l1 n + 340282366920938463463374607431768211456 * l2 n + 6277101735386680763835789423207666416102355444464034512896 * l3 n := by
  unfold W256 at h; unfold l0 l1 l2 l3; omega

theorem limbs_of {n a b c d : Int} (ha : 0 ≤ a ∧ a ≤ 18446744073709551615) (hb : 0 ≤ b ∧ b ≤ 18446744073709551615) (hc : 0 ≤ c ∧ c ≤ 18446744073709551615) (hd : 0 ≤ d ∧ d ≤ 18446744073709551615)
    (h : n = a + 18446744073709551616 * b + 340282366920938463463374607431768211456 * c + 6277101735386680763835789423207666416102355444464034512896 * d) :
    W256 n ∧ l0 n = a ∧ l1 n = b ∧ l2 n = c ∧ l3 n = d := by
  unfold W256 l0 l1 l2 l3; omega

theorem limbs_ex {n : Int} (h : W256 n) : ∃ a b c d : Int, l0 n = a ∧ l1 n = b ∧ l2 n = c ∧ l3 n = d ∧ 0 ≤ a ∧ a ≤ 18446744073709551615 ∧ 0 ≤ b ∧ b ≤ 18446744073709551615 ∧ 0 ≤ c ∧ c ≤ 18446744073709551615 ∧ 0 ≤ d ∧ d ≤ 18446744073709551615 ∧
    n = a + 18446744073709551616 * b + 340282366920938463463374607431768211456 * c + 6277101735386680763835789423207666416102355444464034512896 * d := by
  obtain ⟨⟨p0, q0⟩, ⟨p1, q1⟩, ⟨p2, q2⟩, p3, q3⟩ := limbs_rng n
  exact ⟨_, _, _, _, rfl, rfl, rfl, rfl, p0, q0, p1, q1, p2, q2, p3, q3, limbs_sum h⟩

theorem limbs_zero : l0 0 = 0 ∧ l1 0 = 0 ∧ l2 0 = 0 ∧ l3 0 = 0 := by decide

theorem W256.zero : W256 0 := by unfold W256; omega

/-- A number's value: what 'Wd' would be; equal numbers, equal values. -/
theorem wd_eq {a b c d a' b' c' d' : Int} (h0 : a = a') (h1 : b = b') (h2 : c = c') (h3 : d = d') : (Value.agg #[.int .u64 a, .int .u64 b, .int .u64 c, .int .u64 d]) = .agg #[.int .u64 a', .int .u64 b', .int .u64 c', .int .u64 d'] := by
  rw [h0, h1, h2, h3]
/-! ### Sums and differences, limb by limb -/

def addN (n m : Int) : Int := if n + m < 115792089237316195423570985008687907853269984665640564039457584007913129639936 then n + m else 0

def addF (n m : Int) : Int := if n + m < 115792089237316195423570985008687907853269984665640564039457584007913129639936 then 0 else 4

def subN (n m : Int) : Int := if m ≤ n then n - m else 0

def subF (n m : Int) : Int := if m ≤ n then 0 else 4

/-- a times k plus c. -/
def madN (n k c : Int) : Int := if n * k + c < 115792089237316195423570985008687907853269984665640564039457584007913129639936 then n * k + c else 0

def madF (n k c : Int) : Int := if n * k + c < 115792089237316195423570985008687907853269984665640564039457584007913129639936 then 0 else 4

def cmpN (n m : Int) : Int := if n < m then -1 else if m < n then 1 else 0

theorem addN_rng {n m : Int} (h : W256 n) (k : W256 m) : W256 (addN n m) := by unfold W256 addN at *; split <;> omega

theorem subN_rng {n m : Int} (h : W256 n) (k : W256 m) : W256 (subN n m) := by unfold W256 subN at *; split <;> omega

theorem madN_rng {n k c : Int} (h : W256 n) (hk : 0 ≤ k) (hc : 0 ≤ c) : W256 (madN n k c) := by
  have := Int.mul_nonneg h.1 hk
  unfold W256 madN at *; split <;> omega
/-! ### bits -/

theorem bitLenAux_spec : ∀ (f x : Nat), x < 2 ^ f → x < 2 ^ (Lib.bitLenAux f x) ∧ (x ≠ 0 → 2 ^ (Lib.bitLenAux f x) ≤ 2 * x)
  | 0, x, h => by
    have : x = 0 := by simpa using h
    subst this; simp [Lib.bitLenAux]
  | f + 1, x, h => by
    simp only [Lib.bitLenAux]
    split
    · subst_vars; simp
    · have := bitLenAux_spec f (x / 2) (by rw [Nat.pow_succ] at h; omega)
      rw [Nat.add_comm 1, Nat.pow_succ]
      refine ⟨by omega, fun _ => ?_⟩
      by_cases h2 : x / 2 = 0
      · rw [h2]
        have e : Lib.bitLenAux f 0 = 0 := by cases f <;> simp [Lib.bitLenAux]
        rw [e]; omega
      · have := this.2 h2
        omega

/-- How far a word is shifted to have its highest bit set. -/
theorem lead (y : Int) (h0 : 0 < y) (h1 : y ≤ 18446744073709551615) :
    ∃ s : Nat, 64 - (Lib.bitLen y.toNat : Int) = s ∧ s ≤ 63 ∧ 9223372036854775808 ≤ y * (2 : Int) ^ s ∧ y * (2 : Int) ^ s < 18446744073709551616 := by
  obtain ⟨x, rfl⟩ := Int.eq_ofNat_of_zero_le (Int.le_of_lt h0)
  simp only [Int.toNat_natCast]
  obtain ⟨hs, hs2⟩ := bitLenAux_spec 64 x (by omega)
  have hs2 := hs2 (by omega)
  unfold Lib.bitLen
  have hle : Lib.bitLenAux 64 x ≤ 64 := Lib.bitLenAux_le 64 x 64 (by omega)
  have hpos : 1 ≤ Lib.bitLenAux 64 x := by
    rcases Nat.eq_zero_or_pos (Lib.bitLenAux 64 x) with h | h
    · rw [h] at hs; omega
    · exact h
  generalize Lib.bitLenAux 64 x = L at *
  refine ⟨64 - L, by omega, by omega, ?_, ?_⟩
  · have : (2 ^ 64 : Nat) ≤ 2 * (x * 2 ^ (64 - L)) := by
      calc (2 ^ 64 : Nat) = 2 ^ L * 2 ^ (64 - L) := by rw [← Nat.pow_add]; congr 1; omega
        _ ≤ (2 * x) * 2 ^ (64 - L) := Nat.mul_le_mul_right _ hs2
        _ = 2 * (x * 2 ^ (64 - L)) := Nat.mul_assoc _ _ _
    have e : (x : Int) * (2 : Int) ^ (64 - L) = ((x * 2 ^ (64 - L) : Nat) : Int) := by rw [Int.natCast_mul, Int.natCast_pow]; rfl
    rw [e]; generalize x * 2 ^ (64 - L) = z at *; omega
  · have : x * 2 ^ (64 - L) < 2 ^ 64 := by
      calc x * 2 ^ (64 - L) < 2 ^ L * 2 ^ (64 - L) := Nat.mul_lt_mul_of_pos_right hs (Nat.two_pow_pos _)
        _ = 2 ^ 64 := by rw [← Nat.pow_add]; congr 1; omega
    have e : (x : Int) * (2 : Int) ^ (64 - L) = ((x * 2 ^ (64 - L) : Nat) : Int) := by rw [Int.natCast_mul, Int.natCast_pow]; rfl
    rw [e]; generalize x * 2 ^ (64 - L) = z at *; omega

theorem u64_wrap {n : Int} (h0 : 0 ≤ n) (h : n < 18446744073709551616) : IntKind.u64.wrap n = n := by
  rw [IntKind.wrap_u64]; omega

/-- The low half of a word. -/
theorem and32 (x : Int) (h0 : 0 ≤ x) (h : x < 18446744073709551616) : bits .and .u64 x 4294967295 = x % 4294967296 := by
  obtain ⟨a, rfl⟩ := Int.eq_ofNat_of_zero_le h0
  have := bits_and_u64_nat a 4294967295 (by omega) (by omega)
  rw [show ((4294967295 : Nat) : Int) = 4294967295 from rfl] at this
  rw [this, show (4294967295 : Nat) = 2 ^ 32 - 1 from rfl, Nat.and_two_pow_sub_one_eq_mod]
  simp

/-- '|' of a multiple of 2^k and a number below 2^k is their sum. -/
theorem or_low (k : Nat) (m b : Nat) (hb : b < 2 ^ k) (h : m * 2 ^ k + b < 18446744073709551616) : bits .or .u64 ((m * 2 ^ k : Nat) : Int) (b : Int) = ((m * 2 ^ k + b : Nat) : Int) := by
  rw [bits_or_u64_nat _ _ (by omega) (by omega)]
  congr 1
  rw [Nat.mul_comm m, Nat.two_pow_add_eq_or_of_lt hb]
/-! ### One digit of the long division -/
section
variable {u v a b d q r : Int}

theorem kd_hi (hv : v = a * 4294967296 + b) (hb : 0 ≤ b) (ha : 0 < a) (hq : q * a + r = u) (hu : u < v) (hd : d < 4294967296)
    (hgt : 4294967296 ≤ q ∨ 4294967296 * r + d < q * b) : (u * 4294967296 + d) / v < q := by
  have hvp : 0 < v := by omega
  apply Int.ediv_lt_of_lt_mul hvp
  rcases hgt with h | h
  · have h1 : 4294967296 * v ≤ q * v := Int.mul_le_mul_of_nonneg_right h (by omega)
    omega
  · have e : q * v = q * a * 4294967296 + q * b := by rw [hv, Int.mul_add, Int.mul_assoc]
    omega

theorem kd_lo (hv : v = a * 4294967296 + b) (hb : 0 ≤ b) (ha : 0 < a) (hq : q * a + r = u)
    (hle : q * b ≤ 4294967296 * r + d) (hge : (u * 4294967296 + d) / v ≤ q) : q = (u * 4294967296 + d) / v := by
  have hvp : 0 < v := by omega
  have h : q ≤ (u * 4294967296 + d) / v := by
    apply Int.le_ediv_of_mul_le hvp
    have e : q * v = q * a * 4294967296 + q * b := by rw [hv, Int.mul_add, Int.mul_assoc]
    omega
  omega

theorem kd_break (hv : v = a * 4294967296 + b) (hb : 0 ≤ b) (hb2 : b < 4294967296) (ha : 0 < a) (hq : q * a + r = u) (hq0 : 0 ≤ q) (hu : u < v) (hd : 0 ≤ d)
    (hr : 4294967296 ≤ r) : q * b ≤ 4294967296 * r + d := by
  have h1 : q * a < 4294967296 * a := by omega
  have h2 : q < 4294967296 := Int.lt_of_mul_lt_mul_right h1 (by omega)
  have h3 : q * b ≤ 4294967296 * b := Int.mul_le_mul_of_nonneg_right (by omega) hb
  omega

/-- The digit is below 2^32, the rest below the divisor. -/
theorem kd_digit (hv : 0 < v) (hu0 : 0 ≤ u) (hu : u < v) (hd0 : 0 ≤ d) (hd : d < 4294967296) :
    0 ≤ (u * 4294967296 + d) / v ∧ (u * 4294967296 + d) / v < 4294967296 ∧ 0 ≤ (u * 4294967296 + d) % v ∧ (u * 4294967296 + d) % v < v ∧
      u * 4294967296 + d - (u * 4294967296 + d) / v * v = (u * 4294967296 + d) % v := by
  refine ⟨Int.ediv_nonneg (by omega) (by omega), Int.ediv_lt_of_lt_mul hv (by omega), Int.emod_nonneg _ (by omega), Int.emod_lt_of_pos _ hv, ?_⟩
  have := Int.mul_ediv_add_emod (u * 4294967296 + d) v
  rw [Int.mul_comm] at this
  omega

theorem tdiv_u {x y : Int} (hx : 0 ≤ x) : x.tdiv y = x / y := Int.tdiv_eq_ediv_of_nonneg hx

/-- What is left over, reckoned modulo 2^64. -/
theorem kd_rest {x y z t : Int} (h : x * 4294967296 + y - z = t) (ht : 0 ≤ t) (ht2 : t < 18446744073709551616) :
    IntKind.u64.wrap (IntKind.u64.wrap (IntKind.u64.wrap (x * 4294967296) + y) - IntKind.u64.wrap z) = t := by
  simp only [IntKind.wrap_u64]; omega
end
end Go.Proofs.Ytdmjpmigejpkmaa
