/- The code's ascending: a list in ascending order, each number once. -/
import Derived.Test.YtlbhkgmlfapjgaaEqC
import Derived.Test.YtlbhkgmlfapjgaaShelf
import Derived.Lib.OwnBridge
import Derived.Sort.OwnSortedInts
set_option linter.unusedVariables false

set_option linter.unusedSimpArgs false
namespace Go.Proofs.Ytlbhkgmlfapjgaa
open Go.RowKit Go.Sort

set_option maxRecDepth 100000
/-! ### Sorted and compacted lists -/

theorem comp_inv {zs : List Int} (hs : zs.Pairwise (· ≤ ·)) : ∀ m, m ≤ zs.length → (Lib.compactUpTo zs.toArray m).Pairwise (· < ·) ∧ ∀ x, x ∈ Lib.compactUpTo zs.toArray m ↔ ∃ j, j < m ∧ zs.getD j 0 = x
  | 0, _ => by simp [Lib.compactUpTo]
  | m + 1, hm => by
    obtain ⟨h1, h2⟩ := comp_inv hs m (by omega)
    have hat : ∀ j, j < zs.length → zs.toArray[j]! = zs.getD j 0 := fun j hj => by simp [List.getD, hj]
    have hle := Lib.sorted_at zs zs.length (Nat.le_refl _) (by rw [List.take_length]; exact hs)
    rw [Lib.compactUpTo_succ]
    by_cases hk : Lib.keeps zs.toArray m = true
    · rw [if_pos hk]
      have hlt : ∀ j, j < m → zs.getD j 0 < zs.getD m 0 := fun j hj => by
        unfold Lib.keeps at hk
        rw [hat m (by omega), hat (m - 1) (by omega)] at hk
        have hk' := of_decide_eq_true hk
        rcases hk' with h0 | hne
        · omega
        · have a := hle j (m - 1) (by omega) (by omega)
          have b := hle (m - 1) m (by omega) (by omega)
          omega
      refine ⟨?_, fun x => ?_⟩
      · rw [List.pairwise_append]
        refine ⟨h1, by simp, fun x hx y hy => ?_⟩
        rw [List.mem_singleton.1 hy, hat m (by omega)]
        obtain ⟨j, hj, rfl⟩ := (h2 x).1 hx
        exact hlt j hj
      · rw [List.mem_append, h2, List.mem_singleton, hat m (by omega)]
        constructor
        · rintro (⟨j, hj, e⟩ | e)
          · exact ⟨j, by omega, e⟩
          · exact ⟨m, by omega, e.symm⟩
        · rintro ⟨j, hj, e⟩
          by_cases hjm : j = m
          · subst hjm; exact .inr e.symm
          · exact .inl ⟨j, by omega, e⟩
    · rw [if_neg hk, List.append_nil]
      refine ⟨h1, fun x => ?_⟩
      rw [h2]
      have hk' : ¬ (m = 0 ∨ zs.toArray[m]! ≠ zs.toArray[m - 1]!) := fun h => hk (by unfold Lib.keeps; exact decide_eq_true h)
      have hm0 : m ≠ 0 := fun h => hk' (.inl h)
      have he : zs.getD m 0 = zs.getD (m - 1) 0 := by
        have := hat m (by omega)
        have := hat (m - 1) (by omega)
        by_cases e : zs.toArray[m]! = zs.toArray[m - 1]!
        · omega
        · exact absurd (.inr e) hk'
      constructor
      · rintro ⟨j, hj, e⟩; exact ⟨j, by omega, e⟩
      · rintro ⟨j, hj, e⟩
        by_cases hjm : j = m
        · subst hjm; exact ⟨j - 1, by omega, by rw [← he]; exact e⟩
        · exact ⟨j, by omega, e⟩

def sortL (l : List Int) : List Int := l.mergeSort fun x y => decide (x ≤ y)

def ascL (l : List Int) : List Int := Lib.compact (sortL l)

theorem sortL_le (l : List Int) : (sortL l).Pairwise (· ≤ ·) := by
  have h := List.pairwise_mergeSort (le := fun x y : Int => decide (x ≤ y)) (fun a b c h1 h2 => by simp at *; omega) (fun a b => by simp; omega) l
  exact h.imp fun h => by simpa using h

theorem sortL_len (l : List Int) : (sortL l).length = l.length := List.length_mergeSort l

theorem ascL_sorted (l : List Int) : (ascL l).Pairwise (· < ·) := (comp_inv (sortL_le l) _ (Nat.le_refl _)).1

theorem ascL_mem {x : Int} {l : List Int} : x ∈ ascL l ↔ x ∈ l := by
  unfold ascL Lib.compact
  rw [(comp_inv (sortL_le l) _ (Nat.le_refl _)).2 x, show x ∈ l ↔ x ∈ sortL l from List.mem_mergeSort.symm, List.mem_iff_getElem]
  constructor
  · rintro ⟨j, hj, e⟩; exact ⟨j, hj, by rw [← e]; simp [List.getD, hj]⟩
  · rintro ⟨j, hj, e⟩; exact ⟨j, hj, by rw [← e]; simp [List.getD, hj]⟩

theorem ascL_len (l : List Int) : (ascL l).length ≤ l.length := by
  have h := Lib.compact_length_le (sortL l)
  rw [sortL_len] at h
  exact h

theorem culI_asc (l m : List Int) : (ascL l).filter (fun x => !decide (x ∉ ascL m)) = culI l m := by
  refine sorted_ext ((ascL_sorted l).filter _) (culI_sorted l m) (fun x => ?_)
  rw [List.mem_filter, culI_mem, ascL_mem]
  simp [ascL_mem]
/-! ### The library's functions on a row of the call's own -/

theorem clone_own (v : Value) (l : List Int) (w : World) (h : IntsV w v l) (hl : l.length ≤ 100000) :
    Calls Try.prog 34 #[v] w fun e w' => ∃ v', e = .returned v' ∧ OwnK .i64 3 w' w.heap.size v' l ∧ Below w.heap.size w w' := by
  obtain ⟨a, n, c, rfl, hln, hm, hr⟩ := h.1
  rcases a with _ | a
  · have h0 : l = [] := by
      rcases hr with h0 | ⟨b, off, e, _⟩
      · exact List.eq_nil_of_length_eq_zero (by omega)
      · cases e
    subst h0
    refine (Try.slices_Clone_int_nil n c w).mono ?_
    rintro e w' ⟨rfl, rfl⟩
    exact ⟨_, rfl, OwnK.nil _ _ _ _, Below.refl _ _⟩
  by_cases hn : n = 0
  · subst hn
    obtain rfl : l = [] := List.eq_nil_of_length_eq_zero hln
    refine (Try.slices_Clone_int_zero a c w).mono ?_
    rintro e w' ⟨v', rfl, h1, _, h2⟩
    exact ⟨v', rfl, h1, h2⟩
  rcases hr with h0 | ⟨b, off, e, hb, hc⟩
  · exact absurd h0 hn
  cases e
  refine (Try.slices_Clone_int b off n c l w (by omega) (by omega) (fun j hj => hc j (by omega))).mono ?_
  rintro e w' ⟨v', rfl, h1, _, h2⟩
  rw [← hln, List.take_length] at h1
  exact ⟨v', rfl, h1, h2⟩

theorem sort_own {B : Nat} (v : Value) (l : List Int) (w : World) (h : OwnK .i64 3 w B v l) (hl : l.length ≤ 100000) :
    Calls Try.prog 35 #[v] w fun e w' => e = .returned (.tuple #[]) ∧ OwnK .i64 3 w' B v (sortL l) ∧ ∀ w0 : World, Below B w0 w → B ≤ w.heap.size → Below B w0 w' := by
  rcases h.2 with ⟨rfl, h0⟩ | ⟨g, cap, cur, rfl, hb, hg, h1, h2, h3, h4⟩
  · obtain rfl : l = [] := List.eq_nil_of_length_eq_zero h0
    refine (Try.slices_Sort_int_none none 0 w).mono ?_
    rintro e w' ⟨rfl, rfl⟩
    exact ⟨rfl, by rw [show sortL [] = [] from List.mergeSort_nil]; exact h, fun w0 hb _ => hb⟩
  · have hlt := (h.lt g rfl).2
    have ht : cur.toList.take l.length = l.map (Value.int .i64) := by rw [Nat.mul_one] at h4; exact h4
    refine (Try.slices_Sort_int g 0 cap l w (holds_of_blockI hg ht) hlt (by omega)).mono ?_
    rintro e w' ⟨rfl, n, os, rfl⟩
    have hs := ownsRow_sortedI (n := n) (os := os) (ts := sortL l) (sortL_len l) hb hg h1 h2 h3
    refine ⟨rfl, ?_, fun w0 hbl hsz => hbl.grown (grownBy_sortedI _) hsz (fun j hj => by cases hj; exact hb)⟩
    show World.ownsRow _ _ _ _ _ _ _
    rw [sortL_len]; exact hs

theorem compact_own {B : Nat} (v : Value) (l : List Int) (w : World) (h : OwnK .i64 3 w B v l) (hl : l.length ≤ 100000) :
    Calls Try.prog 36 #[v] w fun e w' => ∃ v', e = .returned v' ∧ OwnK .i64 3 w' B v' (Lib.compact l) ∧ ∀ w0 : World, Below B w0 w → Below B w0 w' := by
  rcases h.2 with ⟨rfl, h0⟩ | ⟨g, cap, cur, rfl, hb, hg, h1, h2, h3, h4⟩
  · obtain rfl : l = [] := List.eq_nil_of_length_eq_zero h0
    refine (Try.slices_Compact_int_empty none 0 w).mono ?_
    rintro e w' ⟨rfl, rfl⟩
    exact ⟨_, rfl, h, fun w0 hb => hb⟩
  · have ht : cur.toList.take l.length = l.map (Value.int .i64) := by rw [Nat.mul_one] at h4; exact h4
    refine (Try.slices_Compact_int g 0 cap l w (holds_of_blockI hg ht) (by omega) h1).mono ?_
    rintro e w' ⟨rfl, q, rfl⟩
    have hle := Lib.compact_length_le l
    have hc := Lib.ownsRow_putRow (q := q) (k := (Lib.compact l).length) (ys := Lib.compact l ++ List.replicate (l.length - (Lib.compact l).length) 0) h (by simp; omega) hle
    rw [List.take_left] at hc
    exact ⟨_, rfl, hc, fun w0 hbl => Lib.below_putRow hbl hb⟩

set_option maxHeartbeats 2000000 in
theorem asc_any (v : Value) (l : List Int) (w : World) (h : IntsV w v l) (hl : l.length ≤ 100000) :
    Calls Try.prog 28 #[v] w fun e w' => ∃ v', e = .returned v' ∧ OwnK .i64 3 w' w.heap.size v' (ascL l) ∧ Below w.heap.size w w' := by
  have HC := Lib.hid (clone_own v l w h hl)
  have HL := Lib.hid hl
  have HSL := Lib.hid (sortL_len l)
  obtain ⟨a, n, c, rfl⟩ := ints_shape' h.1
  clear h hl
  go_enter Try.func28, Try.ntmps28
  go_wp2_with (first
    | (go_at_call 34; refine HC.out.mono ?_; rintro e w1 ⟨v1, rfl, ho1, hb1⟩; have HO1 := Lib.hid ho1; have HB1 := Lib.hid hb1; clear ho1 hb1)
    | (go_at_call 35; refine (sort_own v1 l w1 HO1.out HL.out).mono ?_; rintro e w2 ⟨rfl, ho2, hb2⟩; have HO2 := Lib.hid ho2; have HB2 := Lib.hid (hb2 w HB1.out HB1.out.size); clear ho2 hb2)
    | (go_at_call 36; refine (compact_own v1 (sortL l) w2 HO2.out (by rw [HSL.out]; exact HL.out)).mono ?_; rintro e w3 ⟨v3, rfl, ho3, hb3⟩; have HO3 := Lib.hid ho3; have HB3 := Lib.hid (hb3 w HB2.out); clear ho3 hb3))
  go_ret
  exact ⟨v3, rfl, HO3.out, HB3.out⟩
end Go.Proofs.Ytlbhkgmlfapjgaa
