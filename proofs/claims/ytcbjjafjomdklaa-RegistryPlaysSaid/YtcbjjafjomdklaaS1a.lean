/- Stage 1: the walks of UnitsArithmetic and UnitsEpochs. -/
import Derived.Test.YtcbjjafjomdklaaUnits
set_option linter.unusedVariables false
namespace Go.Proofs.Ytcbjjafjomdklaa
open Go.RowKit
end Go.Proofs.Ytcbjjafjomdklaa
