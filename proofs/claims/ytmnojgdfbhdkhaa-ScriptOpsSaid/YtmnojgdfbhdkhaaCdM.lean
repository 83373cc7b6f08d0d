/- Plain mathematics of the codec: groups of seven bits, and the checksum's two sums. -/
import Derived.Test.YtmnojgdfbhdkhaaBase
import Derived.Laws.BitsLemmas
import Derived.Laws.Bits64
set_option linter.unusedVariables false
namespace Go.Proofs.Ytmnojgdfbhdkhaa
open Go.RowKit

/-- The encoding of a number: groups of seven bits, the least significant one first. -/
def uenc (n : Nat) : List Int := if h : n < 128 then [(n : Int)] else ((n % 128 + 128 : Nat) : Int) :: uenc (n / 128)
termination_by n
decreasing_by omega

theorem uenc_one {n : Nat} (h : n < 128) : uenc n = [(n : Int)] := by rw [uenc, dif_pos h]
theorem uenc_more {n : Nat} (h : ¬ n < 128) : uenc n = ((n % 128 + 128 : Nat) : Int) :: uenc (n / 128) := by rw [uenc, dif_neg h]

theorem uenc_byte (n : Nat) : ∀ x ∈ uenc n, 0 ≤ x ∧ x ≤ 255 := by
  induction n using Nat.strongRecOn with
  | ind n ih =>
    intro x hx
    by_cases h : n < 128
    · rw [uenc_one h] at hx
      simp at hx
      omega
    · rw [uenc_more h] at hx
      rcases List.mem_cons.1 hx with rfl | hx
      · omega
      · exact ih (n / 128) (by omega) x hx

theorem uenc_len (k : Nat) : ∀ n, n < 128 ^ (k + 1) → (uenc n).length ≤ k + 1 := by
  induction k with
  | zero => intro n h; rw [uenc_one (by omega)]; simp
  | succ k ih =>
    intro n h
    by_cases h1 : n < 128
    · rw [uenc_one h1]; simp
    · rw [uenc_more h1]
      have := ih (n / 128) (by rw [Nat.pow_succ] at h; omega)
      simp only [List.length_cons]
      omega

theorem uenc_ne (n : Nat) : 1 ≤ (uenc n).length := by
  by_cases h : n < 128
  · rw [uenc_one h]; simp
  · rw [uenc_more h]; simp

theorem uenc_len10 {n : Nat} (h : n ≤ 18446744073709551615) : (uenc n).length ≤ 10 := by
  have e : (128 : Nat) ^ (9 + 1) = 1180591620717411303424 := by decide
  exact uenc_len 9 n (by omega)

/-- byte(n) with 128 added. -/
theorem or128 (x : Nat) (h : x < 256) : bits .or .u8 (x : Int) 128 = ((x % 128 + 128 : Nat) : Int) := by
  have key : ∀ x : Fin 256, bits .or .u8 (x.val : Int) 128 = ((x.val % 128 + 128 : Nat) : Int) := by decide +kernel
  exact key ⟨x, h⟩

theorem and127 (x : Nat) (h : x < 18446744073709551616) : bits .and .u64 (x : Int) 127 = ((x % 128 : Nat) : Int) := by
  have h := (bits_nat .u64 64 (by decide) (fun n h0 h1 => by rw [IntKind.wrap_u64]; omega) x 127 (by omega) (by decide)).1
  have e : x &&& 127 = x % 2 ^ 7 := Nat.and_two_pow_sub_one_eq_mod x 7
  rw [e] at h
  exact h

/-! ### The checksum -/
def rs (xs : List Int) : Int := 1 + xs.sum + xs.length
def rtk (xs : List Int) : Nat → Int
  | 0 => 0
  | k + 1 => rtk xs k + rs (xs.take (k + 1))
def ckS (xs : List Int) (k : Nat) : Int := rs (xs.take k) % 4294967295
def ckT (xs : List Int) (k : Nat) : Int := rtk xs k % 4294967295
def ck (xs : List Int) : Int := ckT xs xs.length * 4294967296 + ckS xs xs.length

theorem rs_nonneg {xs : List Int} (h : ∀ x ∈ xs, 0 ≤ x ∧ x ≤ 255) : 0 ≤ rs xs := by
  have := sum_nonneg (fun x hx => (h x hx).1)
  unfold rs; omega

theorem ckS_rng (xs : List Int) (k : Nat) : 0 ≤ ckS xs k ∧ ckS xs k < 4294967295 := by unfold ckS; omega
theorem ckT_rng (xs : List Int) (k : Nat) : 0 ≤ ckT xs k ∧ ckT xs k < 4294967295 := by unfold ckT; omega

theorem ckS_zero (xs : List Int) : ckS xs 0 = 1 := by simp [ckS, rs]
theorem ckT_zero (xs : List Int) : ckT xs 0 = 0 := by simp [ckT, rtk]

theorem ckS_next {xs : List Int} {k : Nat} (h : k < xs.length) : ckS xs (k + 1) = (ckS xs k + xs.getD k 0 + 1) % 4294967295 := by
  have e : rs (xs.take (k + 1)) = rs (xs.take k) + xs.getD k 0 + 1 := by
    unfold rs
    rw [take_sum h, List.length_take, List.length_take, Nat.min_eq_left (by omega), Nat.min_eq_left (by omega)]
    omega
  unfold ckS
  rw [e]
  omega

theorem ckT_next {xs : List Int} {k : Nat} : ckT xs (k + 1) = (ckT xs k + ckS xs (k + 1)) % 4294967295 := by
  unfold ckT ckS
  rw [rtk]
  omega

theorem ck_rng (xs : List Int) : 0 ≤ ck xs ∧ ck xs ≤ 18446744073709551615 := by
  have := ckS_rng xs xs.length
  have := ckT_rng xs xs.length
  unfold ck; omega

theorem rtk_congr {xs ys : List Int} : ∀ k, (∀ j, j < k → rs (xs.take (j + 1)) = rs (ys.take (j + 1))) → rtk xs k = rtk ys k
  | 0, _ => rfl
  | k + 1, h => by rw [rtk, rtk, rtk_congr k fun j hj => h j (by omega), h k (by omega)]

theorem sum_set (xs : List Int) (i : Nat) (v : Int) (h : i < xs.length) : (xs.set i v).sum = xs.sum - xs.getD i 0 + v := by
  induction xs generalizing i with
  | nil => simp at h
  | cons x r ih =>
    cases i with
    | zero => simp [List.getD]; omega
    | succ i =>
      have := ih i (by simpa using h)
      simp only [List.set_cons_succ, List.sum_cons, this]
      simp [List.getD]; omega

/-- One byte that is changed changes the checksum. -/
theorem ck_set {xs : List Int} {i : Nat} {v : Int} (h : i < xs.length) (hx : 0 ≤ xs.getD i 0 ∧ xs.getD i 0 ≤ 255) (hv : 0 ≤ v ∧ v ≤ 255) (hne : v ≠ xs.getD i 0) : ck (xs.set i v) ≠ ck xs := by
  have e : rs (xs.set i v) = rs xs - xs.getD i 0 + v := by
    unfold rs; rw [sum_set xs i v h, List.length_set]; omega
  have a1 := ckS_rng (xs.set i v) (xs.set i v).length
  have a2 := ckS_rng xs xs.length
  intro hc
  unfold ck at hc
  have s1 : ckS (xs.set i v) (xs.set i v).length = ckS xs xs.length := by omega
  unfold ckS at s1
  rw [List.take_length, List.take_length, e] at s1
  generalize xs.getD i 0 = x at *
  omega

/-- Two neighbours that differ, exchanged. -/
def swp (xs : List Int) (i : Nat) : List Int := (xs.set i (xs.getD (i + 1) 0)).set (i + 1) (xs.getD i 0)

theorem swp_len (xs : List Int) (i : Nat) : (swp xs i).length = xs.length := by simp [swp]

theorem take_set_le (xs : List Int) (i k : Nat) (v : Int) (h : k ≤ i) : (xs.set i v).take k = xs.take k := by
  rw [List.take_set_of_le h]

theorem rs_swp {xs : List Int} {i : Nat} (h : i + 1 < xs.length) : rs (swp xs i) = rs xs := by
  unfold rs swp
  rw [sum_set _ _ _ (by simpa using h), sum_set _ _ _ (by omega)]
  have : (xs.set i (xs.getD (i + 1) 0)).getD (i + 1) 0 = xs.getD (i + 1) 0 := by
    simp [List.getD]
  rw [this]
  simp only [List.length_set]
  omega

theorem rs_take_swp {xs : List Int} {i : Nat} (h : i + 1 < xs.length) (k : Nat) (hk : k ≠ i + 1) : rs ((swp xs i).take k) = rs (xs.take k) := by
  by_cases hle : k ≤ i
  · unfold swp
    rw [take_set_le _ _ _ _ (by omega), take_set_le _ _ _ _ hle]
  · have e : (swp xs i).take k = swp (xs.take k) i := by
      unfold swp
      rw [List.take_set, List.take_set]
      simp [List.getD, show i + 1 < k by omega, show i < k by omega]
    rw [e, rs_swp (by rw [List.length_take]; omega)]

theorem rs_take_mid {xs : List Int} {i : Nat} (h : i + 1 < xs.length) : rs ((swp xs i).take (i + 1)) = rs (xs.take (i + 1)) + xs.getD (i + 1) 0 - xs.getD i 0 := by
  have e : (swp xs i).take (i + 1) = (xs.take (i + 1)).set i (xs.getD (i + 1) 0) := by
    unfold swp
    rw [take_set_le _ _ _ _ (Nat.le_refl _), List.take_set]
  rw [e]
  unfold rs
  rw [sum_set _ _ _ (by rw [List.length_take]; omega), List.length_set]
  have : (xs.take (i + 1)).getD i 0 = xs.getD i 0 := by simp [List.getD]
  rw [this]
  omega

theorem rtk_swp {xs : List Int} {i : Nat} (h : i + 1 < xs.length) (k : Nat) : rtk (swp xs i) k = rtk xs k + (if i < k then xs.getD (i + 1) 0 - xs.getD i 0 else 0) := by
  induction k with
  | zero => simp [rtk]
  | succ k ih =>
    rw [rtk, rtk, ih]
    by_cases hk : k = i
    · subst hk
      rw [rs_take_mid h, if_neg (by omega), if_pos (by omega)]
      omega
    · rw [rs_take_swp h _ (by omega)]
      by_cases hlt : i < k
      · rw [if_pos hlt, if_pos (by omega)]; omega
      · rw [if_neg hlt, if_neg (by omega)]; omega

theorem ck_swp {xs : List Int} {i : Nat} (h : i + 1 < xs.length) (h1 : 0 ≤ xs.getD i 0 ∧ xs.getD i 0 ≤ 255) (h2 : 0 ≤ xs.getD (i + 1) 0 ∧ xs.getD (i + 1) 0 ≤ 255) (hne : xs.getD i 0 ≠ xs.getD (i + 1) 0) :
    ck (swp xs i) ≠ ck xs := by
  have a1 := ckS_rng (swp xs i) (swp xs i).length
  have a2 := ckS_rng xs xs.length
  intro hc
  unfold ck at hc
  have s1 : ckT (swp xs i) (swp xs i).length = ckT xs xs.length := by omega
  unfold ckT at s1
  rw [swp_len, rtk_swp h, if_pos (by omega)] at s1
  generalize xs.getD i 0 = x at *
  generalize xs.getD (i + 1) 0 = y at *
  omega

/-- A byte xored with an odd byte is another byte. -/
theorem xor_odd (x b : Nat) (hx : x < 256) (hb : b < 256) : ∃ v : Nat, v < 256 ∧ v ≠ x ∧ bits .xor .u8 (x : Int) (bits .or .u8 (b : Int) 1) = (v : Int) := by
  have k1 : ∀ b : Fin 256, ∃ c : Fin 256, c.val % 2 = 1 ∧ bits .or .u8 (b.val : Int) 1 = (c.val : Int) := by decide +kernel
  obtain ⟨⟨c, hc⟩, hodd, e⟩ := k1 ⟨b, hb⟩
  simp only at hodd e
  rw [e]
  have h : bits .xor .u8 (x : Int) (c : Int) = ((x ^^^ c : Nat) : Int) := by
    have hl : x ^^^ c < 2 ^ 8 := Nat.xor_lt_two_pow (by omega) (by omega)
    have hx' : x % 2 ^ IntKind.u8.bits = x := Nat.mod_eq_of_lt (show x < 2 ^ 8 by omega)
    have hc' : c % 2 ^ IntKind.u8.bits = c := Nat.mod_eq_of_lt (show c < 2 ^ 8 by omega)
    simp only [bits, BitVec.ofInt_natCast, BitVec.toNat_xor, BitVec.toNat_ofNat, hx', hc', IntKind.wrap_u8]
    omega
  refine ⟨x ^^^ c, Nat.xor_lt_two_pow (n := 8) (by omega) (by omega), ?_, h⟩
  intro hx'
  have : c = 0 := by
    have := congrArg (x ^^^ ·) hx'
    simp only [← Nat.xor_assoc, Nat.xor_self, Nat.zero_xor] at this
    exact this
  omega

end Go.Proofs.Ytmnojgdfbhdkhaa
