/- The different roots in order: plain mathematics. -/
import Derived.Test.YtjlfacdmfcbjfaaSortR
set_option linter.unusedVariables false
namespace Go.Proofs.Ytjlfacdmfcbjfaa
open Go.RowKit Go.Shelf Go.Sort Go.Lib

theorem cfR_refl (x : Rt) : cfR x x = 0 := (cmpB_zero x.1 x.1 rfl).2 rfl
theorem cfR_eq {x y : Rt} (h : cfR x y = 0) : x = y := Rt.ext ((cmpB_zero x.1 y.1 (x.len2 y)).1 h)
theorem cfR_trans {x y z : Rt} (h1 : cfR x y ≤ 0) (h2 : cfR y z ≤ 0) : cfR x z ≤ 0 := cmpB_trans x.1 y.1 z.1 (x.len2 y) (y.len2 z) h1 h2
theorem cfR_anti (x y : Rt) : cfR y x = - cfR x y := cmpB_anti x.1 y.1 (x.len2 y)
theorem cfR_lt {x y : Rt} (h : cfR x y ≤ 0) (hne : x ≠ y) : cfR x y < 0 := by
  rcases Int.lt_or_eq_of_le h with h | h
  · exact h
  · exact absurd (cfR_eq h) hne
theorem leR_iff {x y : Rt} : (!(ltOf cfR) y x) = true ↔ cfR x y ≤ 0 := by
  have e := cfR_anti x y
  rw [Bool.not_eq_true', ltR_false]
  show ¬ cfR y x < 0 ↔ _
  omega

theorem inOrder_sorted (d : List Rt) : (inOrder d).Pairwise fun x y => cfR x y ≤ 0 := by
  have h := List.pairwise_mergeSort (le := fun x y : Rt => !(ltOf cfR) y x) (fun a b c h1 h2 => by rw [leR_iff] at *; exact cfR_trans h1 h2)
    (fun a b => by
      rw [Bool.or_eq_true, leR_iff, leR_iff]
      have := cfR_anti a b
      omega) d
  exact h.imp fun h => leR_iff.1 h

theorem sorted_get {l : List Rt} (h : l.Pairwise fun x y => cfR x y ≤ 0) {i j : Nat} (hij : i ≤ j) (hj : j < l.length) : cfR l.toArray[i]! l.toArray[j]! ≤ 0 := by
  rcases Nat.lt_or_eq_of_le hij with h1 | rfl
  · have := List.pairwise_iff_getElem.1 h i j (by omega) hj h1
    simpa [getElem!_pos, hj, show i < l.length by omega] using this
  · rw [cfR_refl]; omega

theorem compact_spec {l : List Rt} (h : l.Pairwise fun x y => cfR x y ≤ 0) : ∀ m, m ≤ l.length → (compactUpTo l.toArray m).Pairwise (fun x y => cfR x y < 0) ∧ ∀ x, x ∈ compactUpTo l.toArray m ↔ ∃ j, j < m ∧ l.toArray[j]! = x
  | 0, _ => by simp [compactUpTo]
  | m + 1, hm => by
    obtain ⟨ih1, ih2⟩ := compact_spec h m (by omega)
    rw [compactUpTo_succ]
    cases hk : keeps l.toArray m with
    | false =>
      simp only [Bool.false_eq_true, if_false, List.append_nil]
      refine ⟨ih1, fun x => ?_⟩
      rw [ih2]
      simp only [keeps, decide_eq_false_iff_not, not_or, Decidable.not_not] at hk
      constructor
      · rintro ⟨j, hj, e⟩; exact ⟨j, by omega, e⟩
      · rintro ⟨j, hj, e⟩
        by_cases hjm : j = m
        · exact ⟨m - 1, by omega, by rw [← hk.2, ← hjm]; exact e⟩
        · exact ⟨j, by omega, e⟩
    | true =>
      simp only [if_true]
      simp only [keeps, decide_eq_true_eq] at hk
      refine ⟨List.pairwise_append.2 ⟨ih1, by simp, fun x hx y hy => ?_⟩, fun x => ?_⟩
      · obtain rfl : y = l.toArray[m]! := by simpa using hy
        obtain ⟨j, hj, rfl⟩ := (ih2 x).1 hx
        have hne := hk.resolve_left (by omega)
        have a := sorted_get h (i := j) (j := m - 1) (by omega) (by omega)
        have b := cfR_lt (sorted_get h (i := m - 1) (j := m) (by omega) (by omega)) (fun e => hne e.symm)
        refine cfR_lt (cfR_trans a (by omega)) fun e => ?_
        have c := cfR_anti l.toArray[m - 1]! l.toArray[m]!
        rw [e] at a
        omega
      · rw [List.mem_append, ih2]
        constructor
        · rintro (⟨j, hj, e⟩ | hx)
          · exact ⟨j, by omega, e⟩
          · exact ⟨m, by omega, by simpa using (List.mem_singleton.1 hx).symm⟩
        · rintro ⟨j, hj, e⟩
          by_cases hjm : j = m
          · right; rw [← hjm, e]; simp
          · exact .inl ⟨j, by omega, e⟩

theorem uniq_asc (d : List Rt) : (uniq d).Pairwise fun x y => cfR x y < 0 := (compact_spec (inOrder_sorted d) d.length (by rw [inOrder_len]; exact Nat.le_refl _)).1
theorem mem_uniq {d : List Rt} {x : Rt} : x ∈ uniq d ↔ x ∈ d := by
  unfold uniq
  rw [(compact_spec (inOrder_sorted d) d.length (by rw [inOrder_len]; exact Nat.le_refl _)).2 x]
  rw [show x ∈ d ↔ x ∈ inOrder d from List.mem_mergeSort.symm, List.mem_iff_getElem]
  constructor
  · rintro ⟨j, hj, e⟩
    have hj' : j < (inOrder d).length := by rw [inOrder_len]; exact hj
    exact ⟨j, hj', by simpa [getElem!_pos, hj'] using e⟩
  · rintro ⟨j, hj, e⟩
    exact ⟨j, by rw [inOrder_len] at hj; exact hj, by simpa [getElem!_pos, hj] using e⟩
theorem uniq_len (d : List Rt) : (uniq d).length ≤ d.length := compactUpTo_len _ _

theorem asc_uniq {l : List Rt} (h : l.Pairwise fun x y => cfR x y < 0) : uniq l = l := by
  have e : inOrder l = l := List.mergeSort_of_pairwise (h.imp fun h => leR_iff.2 (Int.le_of_lt h))
  unfold uniq
  rw [e]
  have hk : ∀ j, j < l.length → keeps l.toArray j = true := by
    intro j hj
    by_cases h0 : j = 0
    · simp [keeps, h0]
    · refine keeps_pos fun he => ?_
      have := List.pairwise_iff_getElem.1 h (j - 1) j (by omega) hj (by omega)
      rw [getElem!_pos _ j (by simpa using hj), getElem!_pos _ (j - 1) (by simp; omega)] at he
      simp only [List.getElem_toArray] at he
      rw [he, cfR_refl] at this
      omega
  have := range_map_get l.toArray
  rw [compactUpTo_all _ _ hk]
  simpa using this
theorem uniq_uniq (d : List Rt) : uniq (uniq d) = uniq d := asc_uniq (uniq_asc d)

end Go.Proofs.Ytjlfacdmfcbjfaa
