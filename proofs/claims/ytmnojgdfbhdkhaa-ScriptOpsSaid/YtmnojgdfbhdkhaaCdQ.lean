/- What was appended is read back; what is cut is told. -/
import Derived.Test.YtmnojgdfbhdkhaaCdZ
set_option linter.unusedVariables false
namespace Go.Proofs.Ytmnojgdfbhdkhaa
open Go.RowKit

theorem drop_head {xs : List Int} {i : Nat} {a : Int} {r : List Int} (h : xs.drop i = a :: r) : i < xs.length ∧ xs.getD i 0 = a ∧ xs.drop (i + 1) = r := by
  have hl : i < xs.length := by
    apply Classical.byContradiction
    intro hn
    rw [List.drop_eq_nil_of_le (by omega)] at h
    cases h
  rw [List.drop_eq_getElem_cons hl] at h
  injection h with h1 h2
  exact ⟨hl, by simp [List.getD, List.getElem?_eq_getElem hl, h1], h2⟩

theorem pu_read (xs t : List Int) (n : Int) (hn : n ≤ 18446744073709551615) : ∀ (m i f : Nat), xs.drop i = uenc m ++ t → accU xs i + (m : Int) * 2 ^ (7 * i) = n → f + i = 10 → (0 < i → 0 < m) → pu xs f i = (n, (i : Int) + (uenc m).length, 0) := by
  intro m
  induction m using Nat.strongRecOn with
  | ind m ih =>
    intro i f hd ha hf h0
    have hacc := accU_rng xs i
    have hp := pow7_pos i
    have hi9 : i ≤ 9 := by
      apply Classical.byContradiction
      intro hc
      have hm := h0 (by omega)
      have e : (2 : Int) ^ (7 * i) = 2 ^ (7 * (i - 10)) * 1180591620717411303424 := by
        rw [show 7 * i = 7 * (i - 10) + 70 by omega, Int.pow_add]; rfl
      have h1 : 0 < (2 : Int) ^ (7 * (i - 10)) := pow7_pos _
      have h2 : 1 * (2 : Int) ^ (7 * i) ≤ (m : Int) * 2 ^ (7 * i) := Int.mul_le_mul_of_nonneg_right (by omega) (by omega)
      rw [e] at h2 ha hacc
      generalize (2 : Int) ^ (7 * (i - 10)) = q at *
      omega
    obtain ⟨f, rfl⟩ : ∃ g, f = g + 1 := ⟨f - 1, by omega⟩
    by_cases h128 : m < 128
    · rw [uenc_one h128] at hd ⊢
      obtain ⟨hl, hg, _⟩ := drop_head hd
      rw [pu, if_neg (by omega), hg, if_neg (by omega), if_neg ?_]
      · have e : accU xs (i + 1) = n := by
          rw [accU, hg, Int.emod_eq_of_lt (by omega) (by omega)]
          exact ha
        rw [e]
        simp
      · rintro (⟨h1, h2⟩ | ⟨h1, h2⟩)
        · have := h0 h2; omega
        · subst h2
          have e : (2 : Int) ^ (7 * 9) = 9223372036854775808 := by decide +kernel
          rw [e] at ha
          omega
    · rw [uenc_more h128] at hd ⊢
      obtain ⟨hl, hg, hd'⟩ := drop_head hd
      rw [pu, if_neg (by omega), hg, if_pos (by omega)]
      have e2 : (((m % 128 + 128 : Nat) : Int)) % 128 = ((m % 128 : Nat) : Int) := by omega
      have := ih (m / 128) (by omega) (i + 1) f hd' (by
        rw [accU, hg, e2, pow7]
        have e3 : (m : Int) = ((m % 128 : Nat) : Int) + 128 * ((m / 128 : Nat) : Int) := by omega
        rw [e3, Int.add_mul] at ha
        rw [← ha, show ((m / 128 : Nat) : Int) * (128 * 2 ^ (7 * i)) = 128 * ((m / 128 : Nat) : Int) * 2 ^ (7 * i) by rw [← Int.mul_assoc, Int.mul_comm _ 128]]
        omega) (by omega) (fun _ => by omega)
      rw [this]
      simp only [List.length_cons]
      congr 1
      congr 1
      omega

theorem pu_back (n : Nat) (hn : (n : Int) ≤ 18446744073709551615) (t : List Int) : pu (uenc n ++ t) 10 0 = ((n : Int), ((uenc n).length : Int), 0) := by
  have := pu_read (uenc n ++ t) t n hn n 0 10 rfl (by simp [accU]) rfl (fun h => absurd h (by omega))
  simpa using this

theorem pu_cut (xs : List Int) : ∀ (m i f k : Nat), xs.drop i = (uenc m).take k → k < (uenc m).length → i ≤ xs.length → (uenc m).length ≤ f → pu xs f i = (0, 0, 5) := by
  intro m
  induction m using Nat.strongRecOn with
  | ind m ih =>
    intro i f k hd hk hi hf
    have h1 := uenc_ne m
    obtain ⟨f, rfl⟩ : ∃ g, f = g + 1 := ⟨f - 1, by omega⟩
    cases k with
    | zero =>
      have : xs.length ≤ i := by
        rw [List.take_zero] at hd
        have := congrArg List.length hd
        simp at this
        omega
      rw [pu, if_pos this]
    | succ k =>
      by_cases h128 : m < 128
      · rw [uenc_one h128] at hk; simp at hk
      · rw [uenc_more h128] at hd hk hf
        rw [List.take_succ_cons] at hd
        obtain ⟨hl, hg, hd'⟩ := drop_head hd
        rw [pu, if_neg (by omega), hg, if_pos (by omega)]
        exact ih (m / 128) (by omega) (i + 1) f k hd' (by simpa using hk) (by omega) (by simpa using hf)

theorem pu_prefix (n k : Nat) (hn : n ≤ 18446744073709551615) (hk : k < (uenc n).length) : pu ((uenc n).take k) 10 0 = (0, 0, 5) :=
  pu_cut _ n 0 10 k rfl hk (Nat.zero_le _) (uenc_len10 hn)

/-! ### Each reading, of what was appended and of what is cut -/
theorem ru_back (n : Nat) (hn : (n : Int) ≤ 18446744073709551615) (t : List Int) : ruV (uenc n ++ t) 0 18446744073709551615 = n ∧ ruR (uenc n ++ t) 0 18446744073709551615 = t ∧ ruE (uenc n ++ t) 0 18446744073709551615 = 0 := by
  unfold ruV ruR ruE
  rw [pu_back n hn t]
  simp only [ne_eq, not_true_eq_false, if_false]
  rw [if_neg (by omega), if_neg (by omega), if_neg (by omega)]
  refine ⟨rfl, ?_, rfl⟩
  rw [Int.toNat_natCast, List.drop_left]

theorem ru_cut (n k : Nat) (hn : n ≤ 18446744073709551615) (hk : k < (uenc n).length) : ruE ((uenc n).take k) 0 18446744073709551615 = 5 := by
  unfold ruE
  rw [pu_prefix n k hn hk]
  simp

theorem bo_back (x : Bool) (t : List Int) : bV ((if x then 1 else 0) :: t) 0 = x ∧ bR ((if x then 1 else 0) :: t) 0 = t ∧ bE ((if x then 1 else 0) :: t) 0 = 0 := by
  unfold bV bR bE
  cases x <;> simp
theorem bo_cut : bE [] 0 = 5 := rfl

theorem tk_back {r : List Int} (hr : r.length = 32) (t : List Int) : wV (r ++ t) 0 = r ∧ tkR (r ++ t) 0 32 = t ∧ tkE (r ++ t) 0 32 = 0 := by
  unfold wV tkR tkE
  simp only [ne_eq, not_true_eq_false, if_false]
  rw [if_pos ⟨trivial, by rw [List.length_append]; omega⟩, if_neg (by rw [List.length_append]; omega), if_neg (by rw [List.length_append]; omega)]
  refine ⟨?_, ?_, rfl⟩
  · rw [← hr, List.take_left]
  · have : (32 : Int).toNat = r.length := by rw [hr]; rfl
    rw [this, List.drop_left]
theorem tk_cut {r : List Int} (h : r.length < 32) : tkE r 0 32 = 5 := by
  unfold tkE
  simp only [ne_eq, not_true_eq_false, if_false]
  rw [if_pos (by omega)]

theorem by_back (y t : List Int) (hy : y.length ≤ 100) : byV (uenc y.length ++ y ++ t) 0 100 = y ∧ byR (uenc y.length ++ y ++ t) 0 100 = t ∧ byE (uenc y.length ++ y ++ t) 0 100 = 0 := by
  have hb := ru_back y.length (by omega) (y ++ t)
  rw [← List.append_assoc] at hb
  have hE : byE (uenc y.length ++ y ++ t) 0 100 = 0 := by
    unfold byE byE1 byN byR1
    rw [hb.1, hb.2.1, hb.2.2]
    simp only [ne_eq, not_true_eq_false, if_false]
    rw [if_neg (by omega)]
    unfold tkE
    simp only [ne_eq, not_true_eq_false, if_false]
    rw [if_neg (by rw [List.length_append]; omega)]
  unfold byV byR byR1 byN
  rw [hE, hb.1, hb.2.1]
  simp only [if_true]
  unfold tkV tkR
  simp only [ne_eq, not_true_eq_false, if_false]
  rw [if_neg (by rw [List.length_append]; omega), if_neg (by rw [List.length_append]; omega), Int.toNat_natCast, List.take_left, List.drop_left]
  simp

theorem by_cut (y : List Int) (k : Nat) (hy : y.length ≤ 100) (hk : k < (uenc y.length ++ y).length) : byE ((uenc y.length ++ y).take k) 0 100 = 5 := by
  by_cases h1 : k < (uenc y.length).length
  · rw [List.take_append_of_le_length (by omega)]
    unfold byE byE1
    rw [ru_cut y.length k (by omega) h1]
    simp
  · have hlen : (uenc y.length ++ y).length = (uenc y.length).length + y.length := List.length_append
    rw [hlen] at hk
    have e : (uenc y.length ++ y).take k = uenc y.length ++ y.take (k - (uenc y.length).length) := by
      rw [List.take_append, List.take_of_length_le (by omega)]
    have hb := ru_back y.length (by omega) (y.take (k - (uenc y.length).length))
    rw [e]
    unfold byE byE1 byN byR1
    rw [hb.1, hb.2.1, hb.2.2]
    simp only [ne_eq, not_true_eq_false, if_false]
    rw [if_neg (by omega)]
    unfold tkE
    simp only [ne_eq, not_true_eq_false, if_false]
    rw [if_pos (by rw [List.length_take]; omega)]

end Go.Proofs.Ytmnojgdfbhdkhaa
