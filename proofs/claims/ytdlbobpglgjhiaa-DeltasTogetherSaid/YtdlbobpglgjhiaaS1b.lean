/- Stage 1: Sum and its reference, and the walk of UnitsSums. -/
import Derived.Test.YtdlbobpglgjhiaaS1a
set_option linter.unusedVariables false
namespace Go.Proofs.Ytdlbobpglgjhiaa
open Go.RowKit

def sumV (xs : List Int) : Int := if xs.sum ≤ 18446744073709551615 then xs.sum else 0

def sumE (xs : List Int) : Int := if xs.sum ≤ 18446744073709551615 then 0 else 4

theorem sum_lo {xs : List Int} (h : xs.sum ≤ 18446744073709551615) : sumV xs = xs.sum ∧ sumE xs = 0 := by unfold sumV sumE; rw [if_pos h, if_pos h]; exact ⟨rfl, rfl⟩

theorem sum_hi {xs : List Int} (h : 18446744073709551615 < xs.sum) : sumV xs = 0 ∧ sumE xs = 4 := by unfold sumV sumE; rw [if_neg (by omega), if_neg (by omega)]; exact ⟨rfl, rfl⟩

def Rng (xs : List Int) : Prop := ∀ x ∈ xs, 0 ≤ x ∧ x ≤ 18446744073709551615

theorem Rng.at {xs : List Int} (h : Rng xs) {k : Nat} (hk : k < xs.length) : 0 ≤ xs.getD k 0 ∧ xs.getD k 0 ≤ 18446744073709551615 := by
  have e : xs.getD k 0 = xs[k] := by simp [List.getD, hk]
  rw [e]; exact h _ (List.getElem_mem hk)

theorem Rng.sum_bd {xs : List Int} (h : Rng xs) (k : Nat) : 0 ≤ (xs.take k).sum ∧ (xs.take k).sum ≤ xs.sum :=
  ⟨sum_nonneg (fun x hx => (h x (List.mem_of_mem_take hx)).1), take_sum_le (fun x hx => (h x hx).1) k⟩

theorem tup_lit {k l : IntKind} {a b c d : Int} (h : b = a) (h' : d = c) : Ending.returned (.tuple #[.int k a, .int l c]) = .returned (.tuple #[.int k b, .int l d]) := by rw [h, h']

set_option maxHeartbeats 400000 in
theorem rsum_nil (a : Option Addr) (cap : Nat) (w : World) :
    Calls Try.prog 35 #[.slice a 0 cap] w fun e w' => e = .returned (.tuple #[.int .u64 0, .int .i64 0]) ∧ w = w' := by
  go_enter Try.func35, Try.ntmps35
  go_wp2_with fail
  go_loop [4, 5] (fun t i => i = .int .i64 0 ∧ t = .int .u64 0) (fun _ _ => 0)
  case atStart => exact ⟨rfl, rfl⟩
  case round =>
    obtain ⟨rfl, rfl⟩ := hrel
    go_wp2_with fail
    go_ret2
    exact ⟨rfl, rfl⟩

set_option maxHeartbeats 400000 in
theorem rsum_row (b off len cap : Nat) (xs : List Int) (w : World) (hl : xs.length = len) (hm : len ≤ 9223372036854775807) (hr : Rng xs)
    (hc : ∀ i, i < len → w.cell? ⟨b, off + i, none⟩ = some (.int .u64 (xs.getD i 0))) :
    Calls Try.prog 35 #[.slice (some ⟨b, off, none⟩) len cap] w fun e w' => e = .returned (.tuple #[.int .u64 (sumV xs), .int .i64 (sumE xs)]) ∧ w = w' := by
  have HC := Lib.hid hc; clear hc
  have HL := Lib.hid hl; clear hl
  go_enter Try.func35, Try.ntmps35
  go_wp2_with fail
  go_loop [4, 5] (fun t i => ∃ k : Nat, k ≤ len ∧ i = .int .i64 k ∧ t = .int .u64 (xs.take k).sum ∧ (xs.take k).sum ≤ 18446744073709551615) (fun _ i => len - (intOf i).toNat)
  case atStart => exact ⟨0, Nat.zero_le _, rfl, by simp, by simp⟩
  case round =>
    obtain ⟨k, hk, rfl, rfl, hs⟩ := hrel
    have hb := (hr.sum_bd k).1
    by_cases hlt : k < len
    · obtain ⟨x, HX⟩ : ∃ x, Hid (x = xs.getD k 0) := ⟨_, rfl⟩
      have hx := hr.at (k := k) (by rw [HL.out]; exact hlt)
      rw [← HX.out] at hx
      obtain ⟨hx0, hx1⟩ := hx
      have hcell : w.cell? ⟨b, off + k, none⟩ = some (.int .u64 x) := by rw [HX.out]; exact HC.out k hlt
      have HT : Hid ((xs.take (k + 1)).sum = (xs.take k).sum + x) := by rw [HX.out]; exact take_sum (xs := xs) (k := k) (by rw [HL.out]; exact hlt)
      by_cases hov : (xs.take k).sum + x ≤ 18446744073709551615
      · obtain ⟨e1, e2⟩ := add_lo hov
        go_wp2_with (go_at_call 36; refine (radd_any _ _ hb hs hx0 hx1 _).mono ?_; rintro e w' ⟨rfl, rfl⟩)
        go_round
        case rel => exact ⟨k + 1, by omega, by go_num, by rw [HT.out], by rw [HT.out]; exact hov⟩
        case measure => simp [intOf]; omega
      · obtain ⟨e1, e2⟩ := add_hi (x := (xs.take k).sum) (y := x) (by omega)
        have hbig : 18446744073709551615 < xs.sum := by
          have h2 := (hr.sum_bd (k + 1)).2
          have h3 := HT.out
          omega
        have HS := Lib.hid (sum_hi hbig)
        clear hbig
        go_wp2_with (go_at_call 36; refine (radd_any _ _ hb hs hx0 hx1 _).mono ?_; rintro e w' ⟨rfl, rfl⟩)
        go_ret2
        exact ⟨tup_lit HS.out.1 HS.out.2, rfl⟩
    · have HS := Lib.hid (sum_lo (xs := xs) (by rw [List.take_of_length_le (by rw [HL.out]; omega)] at hs; exact hs))
      have HE := Lib.hid (show xs.take k = xs from List.take_of_length_le (by rw [HL.out]; omega))
      go_wp2_with fail
      go_ret2
      exact ⟨tup_lit (by rw [HS.out.1, HE.out]) HS.out.2, rfl⟩

theorem rsum_any (v : Value) (xs : List Int) (w : World) (h : Ints .u64 w v xs) (hr : Rng xs) :
    Calls Try.prog 35 #[v] w fun e w' => e = .returned (.tuple #[.int .u64 (sumV xs), .int .i64 (sumE xs)]) ∧ w = w' := by
  obtain ⟨a, len, cap, rfl, hl, hm, h0 | ⟨b, off, rfl, hb, hc⟩⟩ := h
  · subst h0
    obtain rfl := List.eq_nil_of_length_eq_zero hl
    exact rsum_nil a cap w
  · exact rsum_row b off len cap xs w hl (by unfold maxLen at hm; omega) hr hc

theorem sum_rev (xs : List Int) : xs.reverse.sum = xs.sum := by
  induction xs with
  | nil => rfl
  | cons x r ih => rw [List.reverse_cons, List.sum_append, ih, List.sum_cons, List.sum_cons]; simp; omega

theorem info22 : (Try.prog.info? 53).map (fun i => (i.zero, i.size, i.bytes)) = some (some (.int .u64 0), 1, 8) := by kernel_rfl

theorem rev_step {xs : List Int} {k : Nat} (hk : k < xs.length) : (xs.drop (xs.length - k)).reverse ++ [xs.getD (xs.length - 1 - k) 0] = (xs.drop (xs.length - (k + 1))).reverse := by
  have e : xs.length - (k + 1) = xs.length - 1 - k := by omega
  rw [e, List.drop_eq_getElem_cons (i := xs.length - 1 - k) (by omega), List.reverse_cons]
  have e2 : xs.length - 1 - k + 1 = xs.length - k := by omega
  rw [e2]
  congr 2
  simp [List.getD, List.getElem?_eq_getElem (show xs.length - 1 - k < xs.length by omega)]
end Go.Proofs.Ytdlbobpglgjhiaa
