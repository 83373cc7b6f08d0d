/- Contract of the reference's CompareRoots: the bytewise order of two arrays of 32 bytes. -/
import Derived.Test.YtcbjjafjomdklaaWorld
import Derived.Test.YtcbjjafjomdklaaEq
set_option linter.unusedVariables false
namespace Go.Proofs.Ytcbjjafjomdklaa
open Go.RowKit

/-- -1, 0 or 1 as the first list is before, equal to or after the second, from the first element on. -/
def cmpB : List Int → List Int → Int
  | x :: xs, y :: ys => if x < y then -1 else if y < x then 1 else cmpB xs ys
  | _, _ => 0

/-- An array of n bytes. -/
def IsBytes (n : Nat) (xs : List Int) : Prop := xs.length = n ∧ ∀ x ∈ xs, (Lit.int .u8 x).wf = true

theorem IsBytes.at {n : Nat} {xs : List Int} (h : IsBytes n xs) {k : Nat} (hk : k < n) : 0 ≤ xs.getD k 0 ∧ xs.getD k 0 ≤ 255 := by
  apply wf_u8
  apply h.2
  have : k < xs.length := by rw [h.1]; exact hk
  simp [List.getD, List.getElem?_eq_getElem this]

theorem cmpB_drop {xs ys : List Int} {k n : Nat} (hx : xs.length = n) (hy : ys.length = n) (hk : k < n) :
    cmpB (xs.drop k) (ys.drop k) = if xs.getD k 0 < ys.getD k 0 then -1 else if ys.getD k 0 < xs.getD k 0 then 1 else cmpB (xs.drop (k + 1)) (ys.drop (k + 1)) := by
  rw [List.drop_eq_getElem_cons (l := xs) (by omega), List.drop_eq_getElem_cons (l := ys) (by omega)]
  have e1 : xs.getD k 0 = xs[k]'(by omega) := by simp [List.getD, List.getElem?_eq_getElem (show k < xs.length by omega)]
  have e2 : ys.getD k 0 = ys[k]'(by omega) := by simp [List.getD, List.getElem?_eq_getElem (show k < ys.length by omega)]
  rw [e1, e2]
  rfl

theorem bytes_cell {w : World} {b : Nat} {xs : List Int} {k : Nat} (h : Blk w b (xs.map (Value.int .u8)).toArray) (hk : k < xs.length) : w.cell? ⟨b, k, none⟩ = some (.int .u8 (xs.getD k 0)) := by
  rw [h.cell k]
  simp [List.getD, List.getElem?_eq_getElem hk]

def CmpRI (w : World) (xs ys : List Int) (i : Value) (wr : World) : Prop :=
  ∃ k : Nat, k ≤ 32 ∧ i = .int .i64 k ∧ cmpB xs ys = cmpB (xs.drop k) (ys.drop k) ∧ Below w.heap.size w wr ∧ Blk wr w.heap.size (xs.map (Value.int .u8)).toArray ∧ Blk wr (w.heap.size + 1) (ys.map (Value.int .u8)).toArray

set_option maxHeartbeats 1000000 in
theorem cmpR_any (xs ys : List Int) (hx : IsBytes 32 xs) (hy : IsBytes 32 ys) (w : World) :
    Calls Try.prog 54 #[.agg (xs.map (Value.int .u8)).toArray, .agg (ys.map (Value.int .u8)).toArray] w fun e w' => e = .returned (.int .i64 (cmpB xs ys)) ∧ Below w.heap.size w w' := by
  obtain ⟨X, HX⟩ : ∃ X, Hid (X = (xs.map (Value.int .u8)).toArray) := ⟨_, rfl⟩
  obtain ⟨Y, HY⟩ : ∃ X, Hid (X = (ys.map (Value.int .u8)).toArray) := ⟨_, rfl⟩
  rw [← HX.out, ← HY.out]
  go_enter Try.func54, Try.ntmps54
  go_wp2_with fail
  go_loopw [5] (fun i wr => CmpRI w xs ys i wr) (fun i _ => 32 - (intOf i).toNat)
  case atStart =>
    refine ⟨0, by omega, rfl, rfl, ?_, ?_, ?_⟩
    · exact ((Below.refl _ _).alloc (Nat.le_refl _) _).alloc (by simp) _
    · rw [← HX.out]; exact (Blk.new rfl).alloc _
    · rw [← HY.out]; exact Blk.new (by simp)
  case round =>
    obtain ⟨k, hk, rfl, hc, hb, bX, bY⟩ := hrel
    have HC := Lib.hid hc; clear hc
    by_cases hlt : k < 32
    · obtain ⟨a, HA⟩ : ∃ a, Hid (a = xs.getD k 0) := ⟨_, rfl⟩
      obtain ⟨b, HB⟩ : ∃ b, Hid (b = ys.getD k 0) := ⟨_, rfl⟩
      have ca := bytes_cell bX (k := k) (by rw [hx.1]; exact hlt)
      have cb := bytes_cell bY (k := k) (by rw [hy.1]; exact hlt)
      have hd := cmpB_drop (k := k) hx.1 hy.1 hlt
      rw [← HA.out] at ca hd
      rw [← HB.out] at cb hd
      have hk0 : (0 : Int) ≤ (k : Int) := by omega
      have hk2 : (k : Int) < 32 := by omega
      have HBE := Lib.hid hb
      clear hb
      rcases Int.lt_trichotomy a b with h | h | h
      · have HE := Lib.hid (HC.out.trans (hd.trans (if_pos h)))
        clear hd
        go_wp2_with fail
        go_quiet (fail)
        go_wp2_with fail
        go_ret
        exact ⟨by rw [HE.out]; rfl, HBE.out.trans ⟨rfl, rfl, rfl, Nat.le_refl _, fun _ _ => rfl⟩⟩
      · have HE := Lib.hid (HC.out.trans (hd.trans ((if_neg (by omega)).trans (if_neg (by omega)))))
        have HAB := Lib.hid h
        have hn1 : ¬ a < b := by omega
        have hn2 : ¬ b < a := by omega
        clear hd h
        go_wp2_with fail
        go_quiet (fail)
        go_wp2_with fail
        go_quiet (fail)
        go_wp2_with fail
        go_roundw
        case rel => exact ⟨k + 1, by omega, by go_num, HE.out, HBE.out.trans ⟨rfl, rfl, rfl, Nat.le_refl _, fun _ _ => rfl⟩, bX, bY⟩
        case measure => simp [intOf]; omega
      · have HE := Lib.hid (HC.out.trans (hd.trans ((if_neg (by omega)).trans (if_pos h))))
        have hn1 : ¬ a < b := by omega
        clear hd
        go_wp2_with fail
        go_quiet (fail)
        go_wp2_with fail
        go_quiet (fail)
        go_wp2_with fail
        go_ret
        exact ⟨by rw [HE.out]; rfl, HBE.out.trans ⟨rfl, rfl, rfl, Nat.le_refl _, fun _ _ => rfl⟩⟩
    · obtain rfl : k = 32 := by omega
      have HE := Lib.hid (HC.out.trans (show cmpB (xs.drop 32) (ys.drop 32) = 0 by rw [List.drop_of_length_le (by rw [hx.1]; omega)]; rfl))
      go_wp2_with fail
      go_ret
      exact ⟨by rw [HE.out]; rfl, hb⟩
end Go.Proofs.Ytcbjjafjomdklaa
