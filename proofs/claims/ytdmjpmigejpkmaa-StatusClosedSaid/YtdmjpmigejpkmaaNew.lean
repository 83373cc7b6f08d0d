/- A slice whose row is new: it lies in no block below N. -/
import Derived.Test.YtdmjpmigejpkmaaBase
import Derived.Deep.AppendLies
set_option linter.unusedVariables false
namespace Go.Proofs.Ytdmjpmigejpkmaa
open Go.RowKit

/-- The row of this slice, if it has elements, lies in a block from N on. -/
def New (N : Nat) (v : Value) : Prop := ∀ z l c, v = .slice (some z) l c → 0 < l → N ≤ z.block

/-- .. in another block than g. -/
def Off (g : Nat) (v : Value) : Prop := ∀ z l c, v = .slice (some z) l c → 0 < l → z.block ≠ g

theorem New.nil (N : Nat) : New N (.slice none 0 0) := fun z l c e => by cases e

theorem New.mono {N M : Nat} {v : Value} (h : New N v) (hM : M ≤ N) : New M v := fun z l c e h0 => Nat.le_trans hM (h z l c e h0)

theorem New.off {N g : Nat} {v : Value} (h : New N v) (hg : g < N) : Off g v := fun z l c e h0 => by have := h z l c e h0; omega

theorem Off.nil (g : Nat) : Off g (.slice none 0 0) := fun z l c e => by cases e

/-- A row that is there lies in another block than one that is not there yet. -/
theorem Ints.off {k : IntKind} {w : World} {v : Value} {xs : List Int} (h : Ints k w v xs) {g : Nat} (hg : w.heap.size ≤ g) : Off g v := by
  obtain ⟨a, len, cap, rfl, hl, hm, hr⟩ := h
  intro z l c e h0
  cases e
  rcases hr with rfl | ⟨b, off, e, hb, _⟩
  · omega
  · cases e; simp only; omega

/-- Another row than g has grown. -/
theorem Ints.grownOff {k : IntKind} {w w' : World} {v : Value} {xs : List Int} {row : Option Nat} (h : Ints k w v xs) (hg : w.grownBy w' row) (ho : ∀ g, row = some g → Off g v) : Ints k w' v xs := by
  obtain ⟨a, len, cap, rfl, hl, hm, hr⟩ := h
  refine ⟨a, len, cap, rfl, hl, hm, ?_⟩
  by_cases h0 : len = 0
  · exact .inl h0
  rcases hr with h1 | ⟨b, off, rfl, hb, hc⟩
  · exact absurd h1 h0
  · have hne : some b ≠ row := fun e => ho b e.symm _ _ _ rfl (by omega) rfl
    refine .inr ⟨b, off, rfl, Nat.lt_of_lt_of_le hb hg.size, fun i hi => ?_⟩
    rw [hg.cell_far ⟨b, off + i, none⟩ hb hne]
    exact hc i hi
end Go.Proofs.Ytdmjpmigejpkmaa
