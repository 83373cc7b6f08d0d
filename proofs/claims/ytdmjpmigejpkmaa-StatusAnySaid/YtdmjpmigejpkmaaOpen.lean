/- Opening parameters: an array of integers, by value. -/
import Derived.Test.YtdmjpmigejpkmaaBase
import Derived.ProofKit
import Derived.OpenShut
import Derived.WideShapes
set_option linter.unusedVariables false
namespace Go.Proofs.Ytdmjpmigejpkmaa
open Go.RowKit

/-- An array of n integers of kind k. -/
def IsArr (k : IntKind) (n : Nat) (v : Value) (xs : List Int) : Prop := v = .agg (xs.map (Value.int k)).toArray ∧ xs.length = n ∧ ∀ x ∈ xs, (Lit.int k x).wf = true

theorem okWide_array {P : Program} {w : World} {r : Reach} {base : Nat} {t : TypeId} {v : Value} {n : Nat} {e : TypeId} (ht : P.underlying t = some (.array n e)) (h : Value.okWide P w r base t v) : ∃ cs, v = .agg cs := by
  simp only [Value.okWide, ht] at h
  obtain ⟨cs, h1, _⟩ := h
  exact ⟨cs, h1⟩

theorem ints_of_trod {H : Type} {enc : TypeId × Value → H} {P : Program} {w : World} {base : Nat} {sp : Nat → Bool} {held : Bool} {fuel : Nat} {t e : TypeId} {n : Nat} {k : IntKind} {cs : List Value} {x : DataW H × List MemPlace}
    (ht : P.underlying t = some (.array n e)) (he : P.underlying e = some (.int k)) (hc : P.cellsOf e = 1) (hct : P.cellsOf t = n) (h : DataW.trod enc P w base sp held fuel t cs = some x) :
    ∃ xs : List Int, cs = xs.map (Value.int k) ∧ xs.length = n ∧ ∀ x ∈ xs, (Lit.int k x).wf = true := by
  obtain ⟨ys, m, _, _, hlen, hn, hall⟩ := DataW.trod_array ht h
  rw [hct] at hlen
  have each (i : Nat) (hi : i < n) : ∃ z, cs[i]? = some (Value.int k z) ∧ (Lit.int k z).wf = true := by
    have h1 := hall i hi
    rw [hc, Nat.mul_one, List.getElem?_eq_getElem (by omega)] at h1
    obtain ⟨z, hz, _, hw⟩ := DataW.trod_int he h1
    refine ⟨z, ?_, hw⟩
    have h2 := congrArg (fun l => l[0]?) hz
    simpa using h2
  clear hall h
  subst hlen
  clear hct hn ht
  induction cs with
  | nil => exact ⟨[], rfl, rfl, by simp⟩
  | cons c cs ih =>
    obtain ⟨z, hz, hw⟩ := each 0 (by simp)
    obtain ⟨xs, rfl, _, hall⟩ := ih (fun i hi => by simpa using each (i + 1) (by simpa using hi))
    simp at hz
    subst hz
    exact ⟨z :: xs, rfl, by simp, by simpa [hw] using hall⟩

theorem open_array {H : Type} {enc : TypeId × Value → H} {P : Program} {w : World} {r : Reach} {base base' : Nat} {sp : Nat → Bool} {held : Bool} {t e : TypeId} {n : Nat} {k : IntKind} {v : Value} {d : DataW H} {p : List MemPlace}
    (ht : P.underlying t = some (.array n e)) (he : P.underlying e = some (.int k)) (hc : P.cellsOf e = 1) (hct : P.cellsOf t = n) (hv : Value.okWide P w r base' t v) (h : DataW.Trod enc P w base sp held t v d p) : ∃ xs, IsArr k n v xs := by
  obtain ⟨cs, rfl⟩ := okWide_array ht hv
  obtain ⟨fuel, hf⟩ := h
  obtain ⟨xs, hx, hn, hw⟩ := ints_of_trod ht he hc hct hf
  refine ⟨xs, ?_, hn, hw⟩
  simp [Value.cells] at hx
  rw [← hx]
end Go.Proofs.Ytdmjpmigejpkmaa
