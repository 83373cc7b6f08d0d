/- Stage 1: the walks of UnitsArithmetic and UnitsEpochs. -/
import Derived.Test.YtdfemompijhohaaUnits
set_option linter.unusedVariables false
namespace Go.Proofs.Ytdfemompijhohaa
open Go.RowKit

end Go.Proofs.Ytdfemompijhohaa
