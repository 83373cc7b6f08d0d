/- The reference's Sort at roots: what it needs of lists and of an owned row. -/
import Derived.Test.YtjlfacdmfcbjfaaGreR
import Derived.Shelf.RegionOpenPlain
import Derived.OwnWalk
set_option linter.unusedVariables false
namespace Go.Proofs.Ytjlfacdmfcbjfaa
open Go.RowKit Go.Shelf Go.Sort Go.Lib

/-- Two ascending lists of the same roots are one. -/
theorem asc_unique : ∀ {l m : List Rt}, (l.Pairwise fun x y => cfR x y < 0) → (m.Pairwise fun x y => cfR x y < 0) → (∀ x, x ∈ l ↔ x ∈ m) → l = m
  | [], [], _, _, _ => rfl
  | [], y :: m, _, _, h => by have := (h y).2 (by simp); simp at this
  | x :: l, [], _, _, h => by have := (h x).1 (by simp); simp at this
  | x :: l, y :: m, h1, h2, h => by
    rw [List.pairwise_cons] at h1 h2
    have hxy : x = y := by
      rcases List.mem_cons.1 ((h x).1 (by simp)) with e | hx
      · exact e
      · rcases List.mem_cons.1 ((h y).2 (by simp)) with e | hy
        · exact e.symm
        · have a := h1.1 y hy
          have b := h2.1 x hx
          have c := cfR_anti x y
          omega
    subst hxy
    rw [asc_unique h1.2 h2.2 fun z => ?_]
    have hz := h z
    simp only [List.mem_cons] at hz
    constructor
    · intro hm
      rcases hz.1 (.inr hm) with e | e
      · subst e
        have := h1.1 z hm
        rw [cfR_refl] at this; omega
      · exact e
    · intro hm
      rcases hz.2 (.inr hm) with e | e
      · subst e
        have := h2.1 z hm
        rw [cfR_refl] at this; omega
      · exact e

theorem cfR_lt_trans {x y z : Rt} (h1 : cfR x y < 0) (h2 : cfR y z < 0) : cfR x z < 0 := by
  refine cfR_lt (cfR_trans (Int.le_of_lt h1) (Int.le_of_lt h2)) fun e => ?_
  subst e
  have := cfR_anti x y
  omega

/-- A root put where it belongs. -/
theorem asc_insert {l : List Rt} (h : l.Pairwise fun x y => cfR x y < 0) {x : Rt} {k : Nat} (hk : k ≤ l.length) (ha : ∀ y ∈ l.drop k, cfR x y < 0) (hb : k = 0 ∨ ∃ y, l[k - 1]? = some y ∧ cfR y x < 0) :
    (l.take k ++ x :: l.drop k).Pairwise fun x y => cfR x y < 0 := by
  have ht : ∀ y ∈ l.take k, cfR y x < 0 := by
    intro y hy
    obtain ⟨j, hj, rfl⟩ := List.mem_iff_getElem.1 hy
    rcases hb with rfl | ⟨z, hz, hzx⟩
    · simp at hj
    · simp only [List.length_take] at hj
      obtain ⟨hk1, ez⟩ := List.getElem?_eq_some_iff.1 hz
      rw [List.getElem_take]
      by_cases e : j = k - 1
      · subst e; rw [ez]; exact hzx
      · have := List.pairwise_iff_getElem.1 h j (k - 1) (by omega) hk1 (by omega)
        rw [ez] at this
        exact cfR_lt_trans this hzx
  have hp := h
  rw [← List.take_append_drop k l, List.pairwise_append] at hp
  rw [List.pairwise_append, List.pairwise_cons]
  refine ⟨hp.1, ⟨ha, hp.2.1⟩, fun a hm b hb' => ?_⟩
  rcases List.mem_cons.1 hb' with rfl | hb'
  · exact ht a hm
  · exact hp.2.2 a hm b hb'

/-- One step of the insertion: the root at place k + 1 and the one before it change places. -/
theorem insert_swap {l : List Rt} {x y : Rt} {k : Nat} (hy : l[k]? = some y) : ((l.take (k + 1) ++ x :: l.drop (k + 1)).set (k + 1) y).set k x = l.take k ++ x :: l.drop k := by
  obtain ⟨hk, rfl⟩ := List.getElem?_eq_some_iff.1 hy
  apply List.ext_getElem?
  intro i
  have hlt : (l.take (k + 1)).length = k + 1 := by simp; omega
  have hlt' : (l.take k).length = k := by simp; omega
  rw [List.getElem?_set, List.getElem?_set]
  simp only [List.length_set, List.length_append, List.length_cons, List.length_drop, hlt]
  by_cases h1 : k = i
  · subst h1
    rw [if_pos rfl, if_pos (by omega), List.getElem?_append_right (by omega), hlt', Nat.sub_self]; rfl
  · rw [if_neg h1]
    by_cases h2 : k + 1 = i
    · subst h2
      rw [if_pos rfl, if_pos (by omega), List.getElem?_append_right (by omega), hlt', show k + 1 - k = 1 by omega]
      simp [List.getElem?_drop, hk]
    · rw [if_neg h2]
      by_cases h3 : i < k
      · rw [List.getElem?_append_left (by omega), List.getElem?_append_left (by omega), List.getElem?_take_of_lt (by omega), List.getElem?_take_of_lt (by omega)]
      · rw [List.getElem?_append_right (by omega), List.getElem?_append_right (by omega), hlt, hlt']
        obtain ⟨j, rfl⟩ : ∃ j, i = k + 2 + j := ⟨i - (k + 2), by omega⟩
        rw [show k + 2 + j - (k + 1) = j + 1 by omega, show k + 2 + j - k = (j + 1) + 1 by omega]
        simp only [List.getElem?_cons_succ, List.getElem?_drop]
        congr 1
        omega

/-- A row that the call owns, of room for cap roots, and the roots at its head. -/
def OwnR (w : World) (g cap : Nat) (l : List Rt) : Prop := (∃ cur, w.heap[g]? = some (.cells cur 25 (0, 0)) ∧ cur.size = cap * 32) ∧ HoldsK encR 32 w g 0 l.toArray

theorem OwnR.of {w : World} {base n : Nat} {v : Value} {l : List Rt} (h : w.ownsRow base 25 32 v n (flatR l)) (hn : v ≠ .slice none 0 0) :
    ∃ g cap, v = .slice (some ⟨g, 0, none⟩) n cap ∧ base ≤ g ∧ g < w.heap.size ∧ n ≤ cap ∧ cap ≤ maxLen ∧ l.length = n ∧ OwnR w g cap l := by
  obtain ⟨g, cap, rfl, h1, h2, h3, h4, h5, h6⟩ := owns_holds h hn
  refine ⟨g, cap, rfl, h1, h2, h3, h4, h5, ?_, h6⟩
  rcases h.2 with ⟨e, _⟩ | ⟨g', cap', cur, e, _, hg, _, _, hcs, _⟩
  · cases e
  · cases e; exact ⟨cur, hg, hcs⟩

theorem OwnR.owns {w : World} {base g cap : Nat} {l : List Rt} (h : OwnR w g cap l) (hb : base ≤ g) (hn : l.length ≤ cap) (hm : cap ≤ maxLen) : w.ownsRow base 25 32 (.slice (some ⟨g, 0, none⟩) l.length cap) l.length (flatR l) := by
  obtain ⟨⟨cur, hg, hcs⟩, hH⟩ := h
  refine ⟨flatR_len l, .inr ⟨g, cap, cur, rfl, hb, hg, hn, hm, hcs, ?_⟩⟩
  have hle := Nat.mul_le_mul_right 32 hn
  apply List.ext_getElem?
  intro j
  by_cases hj : j < l.length * 32
  · rw [List.getElem?_take_of_lt hj, flatR_at l hj]
    have := (hH j (by simpa using hj)).1
    rw [get_flatK _ _ _ _ (by simpa using hj), Nat.zero_add] at this
    simp only [World.cell?, hg] at this
    simpa using this
  · rw [List.getElem?_eq_none (by simp; omega), List.getElem?_eq_none (by rw [flatR_len]; omega)]

theorem room_setCells {e : TypeId} {g n : Nat} : ∀ (vs : List Value) (o : Nat) (w : World), (∃ cur, w.heap[g]? = some (.cells cur e (0, 0)) ∧ cur.size = n) → ∃ cur, (w.setCells g o vs).heap[g]? = some (.cells cur e (0, 0)) ∧ cur.size = n
  | [], _, _, h => h
  | v :: r, o, w, ⟨cur, hg, hn⟩ => by
    refine room_setCells r (o + 1) (w.setCell ⟨g, o, none⟩ v) ⟨cur.setIfInBounds o v, ?_, by simpa using hn⟩
    simp [World.setCell, hg, Array.getElem?_modify]

theorem OwnR.set {w : World} {g cap k : Nat} {l : List Rt} (h : OwnR w g cap l) (x : Rt) (hk : k < l.length) : OwnR (w.setCells g (k * 32) (encR x)) g cap (l.set k x) :=
  ⟨room_setCells _ _ _ h.1, by
    have := holds_set x h.2 (i := k) (by simpa using hk)
    simpa using this⟩

theorem OwnR.below {w w' : World} {g cap : Nat} {l : List Rt} (h : OwnR w g cap l) (hb : Below w.heap.size w w') : OwnR w' g cap l := by
  obtain ⟨⟨cur, hg, hn⟩, hH⟩ := h
  have hlt := (Array.getElem?_eq_some_iff.1 hg).1
  exact ⟨⟨cur, by rw [hb.block g hlt]; exact hg, hn⟩, holds_below hH hlt hb⟩

end Go.Proofs.Ytjlfacdmfcbjfaa
