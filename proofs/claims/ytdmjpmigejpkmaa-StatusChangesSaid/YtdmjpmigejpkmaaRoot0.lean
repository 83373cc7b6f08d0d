/- Contract of the reference's CompareRoots: the bytewise order of two arrays of 32 bytes. -/
import Derived.Test.YtdmjpmigejpkmaaWorld
import Derived.Test.YtdmjpmigejpkmaaEq
set_option linter.unusedVariables false
namespace Go.Proofs.Ytdmjpmigejpkmaa
open Go.RowKit

/-- -1, 0 or 1 as the first list is before, equal to or after the second, from the first element on. -/
def cmpB : List Int → List Int → Int
  | x :: xs, y :: ys => if x < y then -1 else if y < x then 1 else cmpB xs ys
  | _, _ => 0

/-- An array of n bytes. -/
def IsBytes (n : Nat) (xs : List Int) : Prop := xs.length = n ∧ ∀ x ∈ xs, (Lit.int .u8 x).wf = true

theorem IsBytes.at {n : Nat} {xs : List Int} (h : IsBytes n xs) {k : Nat} (hk : k < n) : 0 ≤ xs.getD k 0 ∧ xs.getD k 0 ≤ 255 := by
  apply wf_u8
  apply h.2
  have : k < xs.length := by rw [h.1]; exact hk
  simp [List.getD, List.getElem?_eq_getElem this]

theorem cmpB_drop {xs ys : List Int} {k n : Nat} (hx : xs.length = n) (hy : ys.length = n) (hk : k < n) :
    cmpB (xs.drop k) (ys.drop k) = if xs.getD k 0 < ys.getD k 0 then -1 else if ys.getD k 0 < xs.getD k 0 then 1 else cmpB (xs.drop (k + 1)) (ys.drop (k + 1)) := by
  rw [List.drop_eq_getElem_cons (l := xs) (by omega), List.drop_eq_getElem_cons (l := ys) (by omega)]
  have e1 : xs.getD k 0 = xs[k]'(by omega) := by simp [List.getD, List.getElem?_eq_getElem (show k < xs.length by omega)]
  have e2 : ys.getD k 0 = ys[k]'(by omega) := by simp [List.getD, List.getElem?_eq_getElem (show k < ys.length by omega)]
  rw [e1, e2]
  rfl

theorem bytes_cell {w : World} {b : Nat} {xs : List Int} {k : Nat} (h : Blk w b (xs.map (Value.int .u8)).toArray) (hk : k < xs.length) : w.cell? ⟨b, k, none⟩ = some (.int .u8 (xs.getD k 0)) := by
  rw [h.cell k]
  simp [List.getD, List.getElem?_eq_getElem hk]

def CmpRI (w : World) (xs ys : List Int) (i : Value) (wr : World) : Prop :=
  ∃ k : Nat, k ≤ 32 ∧ i = .int .i64 k ∧ cmpB xs ys = cmpB (xs.drop k) (ys.drop k) ∧ Below w.heap.size w wr ∧ Blk wr w.heap.size (xs.map (Value.int .u8)).toArray ∧ Blk wr (w.heap.size + 1) (ys.map (Value.int .u8)).toArray
end Go.Proofs.Ytdmjpmigejpkmaa
