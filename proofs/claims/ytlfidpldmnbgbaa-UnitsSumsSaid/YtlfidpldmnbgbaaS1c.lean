/- Stage 1: the walk of UnitsSums: a list of more than 1000 numbers gives awake's answer; a shorter one is summed up as it is and reversed. -/
import Derived.Test.YtlfidpldmnbgbaaS1b
set_option linter.unusedVariables false
namespace Go.Proofs.Ytlfidpldmnbgbaa
open Go.RowKit

set_option maxHeartbeats 400000 in
theorem sums_long (a : Option Addr) (len cap : Nat) (w : World) (hl : 1000 < len) (hm : len ≤ 9223372036854775807) :
    Calls Try.prog 4 #[.slice a len cap] w fun e w' => e = .returned (.bool true) ∧ Below w.heap.size w w' := by
  go_enter Try.func4, Try.ntmps4
  go_wp2_with (go_at_call 12; refine (awake1 _).mono ?_; rintro e w' ⟨rfl, rfl⟩)
  go_ret
  exact ⟨rfl, Below.refl _ _⟩

/-- What stands behind the loop: both sums, of the slice and of its reverse. -/
def RevI (base : Nat) (xs : List Int) (v i : Value) (w wr : World) : Prop :=
  (i = .int .i64 (-1) ∧ wr.ownsRow base 22 1 v xs.length (xs.reverse.map (Value.int .u64)) ∧ Below w.heap.size w wr) ∨
  ∃ m : Nat, m < xs.length ∧ i = .int .i64 m ∧ wr.ownsRow base 22 1 v (xs.length - (m + 1)) ((xs.drop (m + 1)).reverse.map (Value.int .u64)) ∧ Below w.heap.size w wr

def meas (i : Value) : Nat := (intOf i + 1).toNat

theorem RevI.start (base : Nat) (xs : List Int) (len : Nat) (hx : xs.length = len) (w : World) : RevI base xs (.slice none 0 0) (.int .i64 ((len : Int) - 1)) w w := by
  by_cases h0 : len = 0
  · subst h0
    obtain rfl := List.eq_nil_of_length_eq_zero hx
    exact .inl ⟨rfl, by simpa using World.ownsRow_nil _ _ _ _, Below.refl _ _⟩
  · refine .inr ⟨len - 1, by omega, by congr 1; omega, ?_, Below.refl _ _⟩
    have e : len - 1 + 1 = len := by omega
    rw [e, hx, Nat.sub_self, List.drop_of_length_le (by omega)]
    exact World.ownsRow_nil _ _ _ _

theorem RevI.step {base : Nat} {xs : List Int} {v' : Value} {m : Nat} {w wr : World} (hm : m < xs.length)
    (hown : wr.ownsRow base 22 1 v' (xs.length - (m + 1) + 1) ((xs.drop (m + 1)).reverse.map (Value.int .u64) ++ [.int .u64 (xs.getD m 0)])) (hb : Below w.heap.size w wr) :
    RevI base xs v' (.int .i64 ((m : Int) - 1)) w wr := by
  have e : (xs.drop (m + 1)).reverse ++ [xs.getD m 0] = (xs.drop m).reverse := by
    rw [List.drop_eq_getElem_cons (i := m) hm, List.reverse_cons]
    congr 2
    simp [List.getD, List.getElem?_eq_getElem hm]
  have e2 : (xs.drop (m + 1)).reverse.map (Value.int .u64) ++ [.int .u64 (xs.getD m 0)] = (xs.drop m).reverse.map (Value.int .u64) := by
    rw [← e, List.map_append]; rfl
  rw [e2] at hown
  by_cases h0 : m = 0
  · subst h0
    refine .inl ⟨rfl, ?_, hb⟩
    have e3 : xs.length - (0 + 1) + 1 = xs.length := by omega
    rw [e3] at hown
    simpa using hown
  · refine .inr ⟨m - 1, by omega, by congr 1; omega, ?_, hb⟩
    have e4 : m - 1 + 1 = m := by omega
    have e3 : xs.length - (m + 1) + 1 = xs.length - m := by omega
    rw [e4]; rw [e3] at hown; exact hown

theorem Rng.rev {xs : List Int} (h : Rng xs) : Rng xs.reverse := fun x hx => h x (by simpa using hx)

theorem sumV_rev (xs : List Int) : sumV xs.reverse = sumV xs := by unfold sumV; rw [sum_rev]

theorem sumE_rev (xs : List Int) : sumE xs.reverse = sumE xs := by unfold sumE; rw [sum_rev]

set_option maxHeartbeats 1000000 in
theorem sums_short (a : Option Addr) (len cap : Nat) (xs : List Int) (w : World) (h : Ints .u64 w (.slice a len cap) xs) (hr : Rng xs) (hl : len ≤ 1000) :
    Calls Try.prog 4 #[.slice a len cap] w fun e w' => e = .returned (.bool true) ∧ Below w.heap.size w w' := by
  obtain ⟨i0, hi, hz0, hz1, hz2⟩ := info_parts info22
  have hxl : Hid (xs.length = len) := by obtain ⟨a', l', c', e, h1, _⟩ := h; cases e; exact h1
  go_enter Try.func4, Try.ntmps4
  go_wp2_with fail
  go_loopw [3, 4] (fun v i wr => RevI w.heap.size xs v i w wr) (fun _ i _ => meas i)
  case atStart => exact RevI.start _ _ _ hxl.out _
  case round =>
    rcases hrel with ⟨rfl, hown, hb⟩ | ⟨m, hm, rfl, hown, hb⟩
    · have e1 := sumV_rev xs
      have e2 := sumE_rev xs
      have hI := h.below hb
      have hB := Ints.own hown (by rw [hxl.out]; unfold maxLen; omega)
      go_wp2_with fail
      refine (sum_any _ xs _ hI hr).mono ?_; rintro e w' ⟨rfl, rfl⟩
      go_wp2_with fail
      refine (rsum_any _ xs _ hI hr).mono ?_; rintro e w' ⟨rfl, rfl⟩
      go_wp2_with fail
      refine (sum_any _ xs.reverse _ hB hr.rev).mono ?_; rintro e w' ⟨rfl, rfl⟩
      go_wp2_with (go_at_call 12; refine (awake1 _).mono ?_; rintro e w' ⟨rfl, rfl⟩)
      go_ret
      exact ⟨rfl, hb⟩
    · have hI := h.below hb
      obtain ⟨a', len', cap', he, hl', hm', hc0⟩ := hI
      have hc1 : ∃ b off, a = some ⟨b, off, none⟩ ∧ wr.cell? ⟨b, off + m, none⟩ = some (.int .u64 (xs.getD m 0)) := by
        cases he
        rcases hc0 with h0 | ⟨b, off, ha, hlt, hc⟩
        · omega
        · exact ⟨b, off, ha, hc m (by omega)⟩
      clear he hl' hc0
      obtain ⟨b, off, rfl, hcell0⟩ := hc1
      obtain ⟨x, HX⟩ : ∃ x, Hid (x = xs.getD m 0) := ⟨_, rfl⟩
      have hcell : wr.cell? ⟨b, off + m, none⟩ = some (.int .u64 x) := by rw [HX.out]; exact hcell0
      clear hcell0
      obtain ⟨ys, HY⟩ : ∃ ys, Hid (ys = (xs.drop (m + 1)).reverse.map (Value.int .u64)) := ⟨_, rfl⟩
      rw [← HY.out] at hown
      have hmlen : m < len := by have := hxl.out; omega
      have hsz : w.heap.size ≤ wr.heap.size := hb.size
      go_wp2_with (at_builtin; refine wpList_append_own _ rfl _ _ 28 rfl w.heap.size 22 i0 (.int .u64 0) 1 8 Try.underlying28 hi hz0 hz1 hz2 rfl (by decide) _ _ _ rfl (hown.alloc _) ⟨wr.heap.size, 0, none⟩ 1 1 [.int .u64 x] rfl rfl ?c1 ?c2 ?c3 ?c4 ?c5 ?_)
      case c1 => exact cell_one_new _ _ _
      case c2 => intro u hu; simp at hu; subst hu; rfl
      case c3 => have := hxl.out; unfold maxLen; omega
      case c4 => have := hxl.out; omega
      case c5 => simp; omega
      · intro v' w1 hown' hgrow _
        have hlt := hown.lt
        have R : RevI w.heap.size xs v' (.int .i64 ((m : Int) - 1)) w w1 := by
          refine RevI.step hm ?_ ?_
          · rw [← HX.out, ← HY.out]; exact hown'
          · exact (hb.alloc hsz _).grown hgrow (by simp; omega) (fun k hk => (hlt k hk).1)
        clear hown' hgrow hown hcell hb hlt
        go_wp2
        go_roundw
        case rel => exact R
        case measure => simp [meas, intOf]

theorem walk_UnitsSums (a0 : Option Addr) (len0 cap0 : Nat) (z0 : List Int) (w : World) (w0 : IsRow .u64 w a0 len0 cap0 z0) :
    Calls Try.prog 4 #[.slice a0 len0 cap0] w fun e w' => e = .returned (.bool true) ∧ Below w.heap.size w w' := by
  obtain ⟨hI, hw⟩ := w0.ints
  by_cases hl : len0 ≤ 1000
  · exact sums_short _ _ _ _ _ hI (fun x hx => wf_u64 (hw x hx)) hl
  · refine sums_long _ _ _ _ (by omega) ?_
    obtain ⟨a, l, c, e, h1, h2, _⟩ := hI
    cases e
    unfold maxLen at h2; omega

end Go.Proofs.Ytlfidpldmnbgbaa
