/- The reference's Slashable, Culprits, Punish, ValidateSlashing. -/
import Derived.Test.YtcbjjafjomdklaaEvB
import Derived.Test.YtcbjjafjomdklaaCl
import Derived.Test.YtcbjjafjomdklaaVa
set_option linter.unusedVariables false

set_option linter.unusedSimpArgs false
namespace Go.Proofs.Ytcbjjafjomdklaa
open Go.RowKit

set_option maxRecDepth 100000

/-- Two claims contradict each other. -/
def SlaP (x y : ClD) : Prop := (x.target = y.target ∧ (x.source ≠ y.source ∨ x.root ≠ y.root)) ∨ (x.source < y.source ∧ y.target < x.target) ∨ (y.source < x.source ∧ x.target < y.target)
instance (x y : ClD) : Decidable (SlaP x y) := by unfold SlaP; infer_instance
end Go.Proofs.Ytcbjjafjomdklaa
