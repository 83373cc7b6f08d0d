/- Supporters. -/
import Derived.Test.YtcbjjafjomdklaaVoB
import Derived.Test.YtcbjjafjomdklaaOwK
set_option linter.unusedVariables false

set_option linter.unusedSimpArgs false
namespace Go.Proofs.Ytcbjjafjomdklaa
open Go.RowKit

set_option maxRecDepth 100000

/-- The supporters of a root among the first k validators. -/
def suppK (vs : List VoD) (r : List Int) : Nat → List Int
  | 0 => []
  | k + 1 => suppK vs r k ++ if (vs.getD k zeV).has = true ∧ (vs.getD k zeV).r = r then [(k : Int)] else []

theorem suppK_len (vs : List VoD) (r : List Int) : ∀ k, (suppK vs r k).length ≤ k
  | 0 => Nat.le_refl _
  | k + 1 => by
    have := suppK_len vs r k
    unfold suppK
    split <;> simp <;> omega

theorem suppK_rng (vs : List VoD) (r : List Int) : ∀ k, ∀ x ∈ suppK vs r k, 0 ≤ x ∧ x < k
  | 0, x, h => by cases h
  | k + 1, x, h => by
    unfold suppK at h
    rcases List.mem_append.1 h with h | h
    · have := suppK_rng vs r k x h; omega
    · split at h
      · rw [List.mem_singleton.1 h]; omega
      · cases h

theorem suppK_yes {vs : List VoD} {r : List Int} {k : Nat} (h1 : (vs.getD k zeV).has = true) (h2 : (vs.getD k zeV).r = r) : suppK vs r (k + 1) = suppK vs r k ++ [(k : Int)] := by
  rw [suppK, if_pos ⟨h1, h2⟩]

theorem suppK_no {vs : List VoD} {r : List Int} {k : Nat} (h : ¬ ((vs.getD k zeV).has = true ∧ (vs.getD k zeV).r = r)) : suppK vs r (k + 1) = suppK vs r k := by
  rw [suppK, if_neg h, List.append_nil]

def SuppI (w : World) (vs : List VoD) (r : List Int) (X : Array Value) (v i : Value) (wr : World) : Prop :=
  ∃ k : Nat, k ≤ vs.length ∧ i = .int .i64 k ∧ OwnK .i64 3 wr (w.heap.size + 1) v (suppK vs r k) ∧ Blk wr w.heap.size X ∧ Below w.heap.size w wr

theorem eq_rootL {xs ys : List Int} (hx : IsBytes 32 xs) (hy : IsBytes 32 ys) (w : World) : Sem.run Try.prog (Op.equalIn 10000 28 (.agg (bytesL xs).toArray) (.agg (bytesL ys).toArray)) w = .ok (decide (xs = ys)) w := eq_root hx hy w
end Go.Proofs.Ytcbjjafjomdklaa
