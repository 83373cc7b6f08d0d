/- The base's Some: some validators. -/
import Derived.Test.YtdlbobpglgjhiaaOwL
import Derived.Test.YtdlbobpglgjhiaaVa
set_option linter.unusedVariables false

set_option linter.unusedSimpArgs false
namespace Go.Proofs.Ytdlbobpglgjhiaa
open Go.RowKit

set_option maxRecDepth 100000

/-- What Some's loop holds. -/
def SomeI (w : World) (v i : Value) (n : Nat) (wr : World) : Prop :=
  ∃ (k : Nat) (l : List Int), k ≤ n ∧ i = .int .i64 k ∧ l.length ≤ k ∧ ((∀ x ∈ l, 0 ≤ x ∧ x < k) ∧ l.Pairwise (· < ·)) ∧ OwnK .i64 3 wr w.heap.size v l ∧ Below w.heap.size w wr

theorem own_one (w : World) (B : Nat) (x : Int) (h : B ≤ w.heap.size) : OwnK .i64 3 (w.alloc (.cells #[.int .i64 x] 3)) B (.slice (some ⟨w.heap.size, 0, none⟩) 1 1) [x] :=
  World.ownsRow_lit w #[.int .i64 x] 1 h (by unfold maxLen; omega) rfl

theorem vl_sorted {l : List Int} {n : Int} (h0 : l ≠ []) (h : ∀ x ∈ l, 0 ≤ x ∧ x < n) (hs : l.Pairwise (· < ·)) : vlE l n = 0 := by
  refine vl_of (Nat.pos_of_ne_zero fun e => h0 (List.eq_nil_of_length_eq_zero e)) fun i hi => ?_
  have e : ∀ j (hj : j < l.length), l.getD j 0 = l[j] := fun j hj => by simp [List.getD, List.getElem?_eq_getElem hj]
  obtain ⟨h1, h2⟩ := h l[i] (List.getElem_mem hi)
  refine ⟨by rw [e i hi]; exact h1, by rw [e i hi]; exact h2, fun h3 => ?_⟩
  rw [e i hi, e (i - 1) (by omega)]
  exact List.pairwise_iff_getElem.1 hs _ _ _ _ (by omega)
end Go.Proofs.Ytdlbobpglgjhiaa
