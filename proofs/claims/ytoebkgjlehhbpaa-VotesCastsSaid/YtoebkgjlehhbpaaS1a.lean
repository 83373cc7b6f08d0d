/- Stage 1: the walks of UnitsArithmetic and UnitsEpochs. -/
import Derived.Test.YtoebkgjlehhbpaaUnits
set_option linter.unusedVariables false
namespace Go.Proofs.Ytoebkgjlehhbpaa
open Go.RowKit
end Go.Proofs.Ytoebkgjlehhbpaa
