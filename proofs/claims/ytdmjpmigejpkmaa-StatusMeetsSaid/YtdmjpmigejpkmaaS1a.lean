/- Stage 1: the walks of UnitsArithmetic and UnitsEpochs. -/
import Derived.Test.YtdmjpmigejpkmaaUnits
set_option linter.unusedVariables false
namespace Go.Proofs.Ytdmjpmigejpkmaa
open Go.RowKit
end Go.Proofs.Ytdmjpmigejpkmaa
