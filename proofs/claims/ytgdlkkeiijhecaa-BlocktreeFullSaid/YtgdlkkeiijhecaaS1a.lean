/- Stage 1: the walks of UnitsArithmetic and UnitsEpochs. -/
import Derived.Test.YtgdlkkeiijhecaaUnits
set_option linter.unusedVariables false
namespace Go.Proofs.Ytgdlkkeiijhecaa
open Go.RowKit
end Go.Proofs.Ytgdlkkeiijhecaa
