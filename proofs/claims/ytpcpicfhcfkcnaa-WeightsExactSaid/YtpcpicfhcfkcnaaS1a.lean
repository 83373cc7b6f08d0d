/- Stage 1: the walks of UnitsArithmetic and UnitsEpochs. -/
import Derived.Test.YtpcpicfhcfkcnaaUnits
set_option linter.unusedVariables false
namespace Go.Proofs.Ytpcpicfhcfkcnaa
open Go.RowKit
end Go.Proofs.Ytpcpicfhcfkcnaa
