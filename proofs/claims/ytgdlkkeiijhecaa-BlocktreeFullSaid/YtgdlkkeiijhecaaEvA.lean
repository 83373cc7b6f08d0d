/- The reference's Has and Insert. -/
import Derived.Test.YtgdlkkeiijhecaaOwL
set_option linter.unusedVariables false

set_option linter.unusedSimpArgs false
namespace Go.Proofs.Ytgdlkkeiijhecaa
open Go.RowKit

set_option maxRecDepth 100000

theorem getD_at {l : List Int} {k : Nat} (hk : k < l.length) : l.getD k 0 = l[k] := by simp [List.getD, List.getElem?_eq_getElem hk]

/-- Element k of a slice of ints. -/
theorem IntsV.at {w : World} {a : Option Addr} {len cap : Nat} {l : List Int} (h : IntsV w (.slice a len cap) l) {k : Nat} (hk : k < l.length) :
    ∃ b off, a = some ⟨b, off, none⟩ ∧ b < w.heap.size ∧ w.cell? ⟨b, off + k, none⟩ = some (.int .i64 (l.getD k 0)) := by
  obtain ⟨⟨a', n, c, e, hl, hm, hr⟩, _⟩ := h
  cases e
  rcases hr with h0 | ⟨b, off, rfl, hb, hc⟩
  · omega
  · exact ⟨b, off, rfl, hb, hc k (by omega)⟩

theorem IntsV.len {w : World} {a : Option Addr} {len cap : Nat} {l : List Int} (h : IntsV w (.slice a len cap) l) : l.length = len ∧ len ≤ maxLen := by
  obtain ⟨⟨a', n, c, e, hl, hm, hr⟩, _⟩ := h
  cases e
  exact ⟨hl, hm⟩

/-- A number is inserted into an ascending list. -/
def insI : List Int → Int → List Int
  | [], n => [n]
  | x :: l, n => if x < n then x :: insI l n else if x = n then x :: l else n :: x :: l

theorem insI_at : ∀ {l : List Int} {n : Int} {k : Nat}, k ≤ l.length → (∀ j, j < k → l.getD j 0 < n) → (k < l.length → n ≤ l.getD k 0) → insI l n = if k < l.length ∧ l.getD k 0 = n then l else l.take k ++ n :: l.drop k
  | [], n, k, hk, _, _ => by
    obtain rfl : k = 0 := by simpa using hk
    simp [insI]
  | x :: l, n, 0, _, _, h => by
    have h0 := h (by simp)
    simp at h0
    unfold insI
    rw [if_neg (by omega)]
    by_cases e : x = n <;> simp [e]
  | x :: l, n, k + 1, hk, h1, h2 => by
    have hx := h1 0 (by omega)
    simp at hx
    unfold insI
    rw [if_pos hx, insI_at (l := l) (n := n) (k := k) (by simpa using hk) (fun j hj => by simpa using h1 (j + 1) (by omega)) (fun hkl => by simpa using h2 (by simpa using hkl))]
    by_cases e : k < l.length ∧ l.getD k 0 = n
    · rw [if_pos e, if_pos (by simpa using e)]
    · rw [if_neg e, if_neg (by simpa using e)]
      simp

theorem insI_mem : ∀ {l : List Int} {n x : Int}, x ∈ insI l n ↔ x = n ∨ x ∈ l
  | [], n, x => by simp [insI]
  | y :: l, n, x => by
    unfold insI
    split
    · rw [List.mem_cons, insI_mem, List.mem_cons]
      constructor
      · rintro (h | h | h)
        · exact .inr (.inl h)
        · exact .inl h
        · exact .inr (.inr h)
      · rintro (h | h | h)
        · exact .inr (.inl h)
        · exact .inl h
        · exact .inr (.inr h)
    · split
      · rename_i e
        rw [List.mem_cons, e]
        constructor
        · rintro (h | h)
          · exact .inl h
          · exact .inr (.inr h)
        · rintro (h | h | h)
          · exact .inl h
          · exact .inl h
          · exact .inr h
      · rw [List.mem_cons]

theorem insI_len : ∀ (l : List Int) (n : Int), l.length ≤ (insI l n).length ∧ (insI l n).length ≤ l.length + 1
  | [], n => by simp [insI]
  | y :: l, n => by
    have := insI_len l n
    unfold insI
    split
    · simp only [List.length_cons]; omega
    · split <;> simp only [List.length_cons] <;> omega

theorem insI_has {l : List Int} {n : Int} (hs : l.Pairwise (· < ·)) (h : n ∈ l) : insI l n = l := by
  induction l with
  | nil => cases h
  | cons y l ih =>
    rw [List.pairwise_cons] at hs
    unfold insI
    rcases List.mem_cons.1 h with rfl | h
    · rw [if_neg (by omega), if_pos rfl]
    · rw [if_pos (hs.1 _ h), ih hs.2 h]

theorem insI_sorted {l : List Int} {n : Int} (hs : l.Pairwise (· < ·)) : (insI l n).Pairwise (· < ·) := by
  induction l with
  | nil => simp [insI]
  | cons y l ih =>
    rw [List.pairwise_cons] at hs
    unfold insI
    split
    · rename_i hy
      rw [List.pairwise_cons]
      refine ⟨fun x hx => ?_, ih hs.2⟩
      rcases insI_mem.1 hx with rfl | h
      · exact hy
      · exact hs.1 x h
    · split
      · rw [List.pairwise_cons]; exact hs
      · rename_i h1 h2
        rw [List.pairwise_cons, List.pairwise_cons]
        refine ⟨fun x hx => ?_, hs⟩
        rcases List.mem_cons.1 hx with rfl | h
        · omega
        · have := hs.1 x h; omega

theorem insI_new {l : List Int} {n : Int} (hs : l.Pairwise (· < ·)) (h : n ∉ l) : (insI l n).length = l.length + 1 := by
  induction l with
  | nil => simp [insI]
  | cons y l ih =>
    rw [List.pairwise_cons] at hs
    have hy : y ≠ n := fun e => h (by rw [e]; simp)
    unfold insI
    by_cases hlt : y < n
    · rw [if_pos hlt, List.length_cons, ih hs.2 (fun hm => h (List.mem_cons_of_mem _ hm)), List.length_cons]
    · rw [if_neg hlt, if_neg hy]; simp
end Go.Proofs.Ytgdlkkeiijhecaa
