/- The decimal notation: a notation, and the number that it denotes. -/
import Derived.Test.YtjlfacdmfcbjfaaFmt
import Derived.Test.YtjlfacdmfcbjfaaParse
set_option linter.unusedVariables false
namespace Go.Proofs.Ytjlfacdmfcbjfaa
open Go.RowKit

theorem sB_nums {ds : List Int} (h : ∀ x ∈ ds, 0 ≤ x ∧ x ≤ 255) {k : Nat} (hk : k < ds.length) : sB (strOfNums ds) k = ds.getD k 0 := by
  have hs : k < (strOfNums ds).size := by rw [strOfNums_size]; exact hk
  unfold sB
  rw [dif_pos hs]
  have hx := h (ds[k]) (List.getElem_mem hk)
  have e : (strOfNums ds)[k]'hs = UInt8.ofNat (ds[k]).toNat := by
    show (strOfNums ds).data[k]'hs = _
    simp [strOfNums]
  rw [e]
  simp [List.getD, List.getElem?_eq_getElem hk]
  omega

theorem decL_digs (n : Nat) : ∀ x ∈ decL n, 48 ≤ x ∧ x ≤ 57 := by
  induction n using Nat.strongRecOn with
  | ind n ih =>
    intro x hx
    by_cases hn : n / 10 = 0
    · rw [decL_one hn] at hx
      simp at hx
      omega
    · rw [decL_more hn] at hx
      rcases List.mem_append.1 hx with h | h
      · exact ih (n / 10) (by omega) x h
      · simp at h
        omega

theorem decL_ne (n : Nat) : 1 ≤ (decL n).length := by
  by_cases hn : n / 10 = 0
  · rw [decL_one hn]; simp
  · rw [decL_more hn]; simp

theorem decL_len : ∀ (k n : Nat), n < 10 ^ (k + 1) → (decL n).length ≤ k + 1
  | 0, n, h => by
    rw [decL_one (by simp at h; omega)]; simp
  | k + 1, n, h => by
    by_cases hn : n / 10 = 0
    · rw [decL_one hn]; simp
    · rw [decL_more hn]
      have := decL_len k (n / 10) (by rw [Nat.pow_succ] at h; omega)
      simp
      omega

theorem decL_head (n : Nat) : (decL n).length = 1 ∨ (decL n).getD 0 0 ≠ 48 := by
  induction n using Nat.strongRecOn with
  | ind n ih =>
    by_cases hn : n / 10 = 0
    · left; rw [decL_one hn]; rfl
    · right
      rw [decL_more hn]
      have h1 := decL_ne (n / 10)
      have e : (decL (n / 10) ++ [48 + ((n % 10 : Nat) : Int)]).getD 0 0 = (decL (n / 10)).getD 0 0 := by
        rw [List.getD_eq_getElem?_getD, List.getD_eq_getElem?_getD, List.getElem?_append_left (show 0 < (decL (n / 10)).length by omega)]
      rw [e]
      rcases ih (n / 10) (by omega) with h | h
      · by_cases h2 : n / 10 / 10 = 0
        · rw [decL_one h2]
          simp
          omega
        · exfalso
          rw [decL_more h2] at h
          have := decL_ne (n / 10 / 10)
          simp at h
          rw [h] at this
          simp at this
      · exact h

def valL : List Int → Int := List.foldl (fun a d => a * 10 + (d - 48)) 0

theorem valL_snoc (ds : List Int) (d : Int) : valL (ds ++ [d]) = valL ds * 10 + (d - 48) := by
  simp [valL, List.foldl_append]

theorem valL_dec (n : Nat) : valL (decL n) = n := by
  induction n using Nat.strongRecOn with
  | ind n ih =>
    by_cases hn : n / 10 = 0
    · rw [decL_one hn]
      simp [valL]
      omega
    · rw [decL_more hn, valL_snoc, ih (n / 10) (by omega)]
      omega

theorem valN_take {ds : List Int} (h : ∀ x ∈ ds, 0 ≤ x ∧ x ≤ 255) : ∀ k, k ≤ ds.length → valN (strOfNums ds) k = valL (ds.take k)
  | 0, _ => rfl
  | k + 1, hk => by
    have e : ds.take (k + 1) = ds.take k ++ [ds.getD k 0] := by
      rw [List.take_succ_eq_append_getElem (by omega)]
      simp [List.getD, List.getElem?_eq_getElem (show k < ds.length by omega)]
    rw [e, valL_snoc, ← valN_take h k (by omega), ← sB_nums h (by omega)]
    rfl

/-- Parse reads what Format writes. -/
theorem dec_back {n : Int} (hn : W256 n) : notB (strOfNums (decL n.toNat)) = true ∧ parseV (strOfNums (decL n.toNat)) = n ∧ parseE (strOfNums (decL n.toNat)) = 0 := by
  obtain ⟨m, rfl⟩ := Int.eq_ofNat_of_zero_le hn.1
  have hm := hn.2
  rw [Int.toNat_natCast]
  have hd := decL_digs m
  have hr : ∀ x ∈ decL m, 0 ≤ x ∧ x ≤ 255 := fun x hx => by have := hd x hx; omega
  have h1 := decL_ne m
  have h2 := decL_len 77 m (by have e : (10 : Nat) ^ (77 + 1) = 1000000000000000000000000000000000000000000000000000000000000000000000000000000 := by decide
                               omega)
  have hB : notB (strOfNums (decL m)) = true := by
    unfold notB digs
    rw [strOfNums_size]
    have e1 : decide (1 ≤ (decL m).length) = true := by simpa using h1
    have e2 : decide ((decL m).length ≤ 80) = true := by simp; omega
    rw [e1, e2]
    simp only [Bool.true_and, Bool.and_eq_true, Bool.or_eq_true]
    refine ⟨?_, ?_⟩
    · rw [List.all_eq_true]
      intro j hj
      have hj' := List.mem_range.1 hj
      rw [sB_nums hr hj']
      have := hd ((decL m)[j]) (List.getElem_mem hj')
      simp [List.getD, List.getElem?_eq_getElem hj', isDig]
      exact this
    · rcases decL_head m with h | h
      · right; simpa using h
      · left
        rw [sB_nums hr (by omega)]
        simpa using h
  have hv : valN (strOfNums (decL m)) (strOfNums (decL m)).size = m := by
    rw [strOfNums_size, valN_take hr _ (Nat.le_refl _), List.take_length, valL_dec]
  refine ⟨hB, ?_, ?_⟩
  · unfold parseV; rw [if_pos hB, hv, if_pos hm]
  · unfold parseE; rw [if_pos hB, hv, if_pos hm]

end Go.Proofs.Ytjlfacdmfcbjfaa
