/- Stage 1: the walks of UnitsArithmetic and UnitsEpochs. -/
import Derived.Test.YtlbhkgmlfapjgaaUnits
set_option linter.unusedVariables false
namespace Go.Proofs.Ytlbhkgmlfapjgaa
open Go.RowKit
end Go.Proofs.Ytlbhkgmlfapjgaa
