/- Stage 1: the walks of UnitsArithmetic and UnitsEpochs. -/
import Derived.Test.YtdbkphkgjaecoaaUnits
set_option linter.unusedVariables false
namespace Go.Proofs.Ytdbkphkgjaecoaa
open Go.RowKit
end Go.Proofs.Ytdbkphkgjaecoaa
