/- codec.Checksum and the reference's. -/
import Derived.Test.YtmnojgdfbhdkhaaCdM
import Derived.Test.YtmnojgdfbhdkhaaWorld
set_option linter.unusedVariables false
namespace Go.Proofs.Ytmnojgdfbhdkhaa
open Go.RowKit

/-- A slice of bytes. -/
structure Byt (w : World) (v : Value) (xs : List Int) : Prop where
  ints : Ints .u8 w v xs
  rng : ∀ x ∈ xs, 0 ≤ x ∧ x ≤ 255
  fits : ∀ a l c, v = .slice a l c → l ≤ c ∧ c ≤ maxLen

theorem Byt.below {w w' : World} {v : Value} {xs : List Int} (h : Byt w v xs) (hb : Below w.heap.size w w') : Byt w' v xs := ⟨h.ints.below hb, h.rng, h.fits⟩

theorem Byt.at {w : World} {v : Value} {xs : List Int} (h : Byt w v xs) {k : Nat} (hk : k < xs.length) : 0 ≤ xs.getD k 0 ∧ xs.getD k 0 ≤ 255 := by
  have e : xs.getD k 0 = xs[k] := by simp [List.getD, List.getElem?_eq_getElem hk]
  rw [e]; exact h.rng _ (List.getElem_mem hk)

theorem IsRow.byt {w : World} {a : Option Addr} {len cap : Nat} {zs : List Int} (h : IsRow .u8 w a len cap zs) : Byt w (.slice a len cap) (zs.take len) :=
  ⟨h.ints.1, fun x hx => wf_u8 (h.ints.2 x hx), fun a' l' c' e => by
    cases e
    rcases h with ⟨_, rfl, rfl, _⟩ | ⟨x, _, h1, h2, _⟩
    · exact ⟨Nat.le_refl _, Nat.zero_le _⟩
    · exact ⟨h1, h2⟩⟩

end Go.Proofs.Ytmnojgdfbhdkhaa
