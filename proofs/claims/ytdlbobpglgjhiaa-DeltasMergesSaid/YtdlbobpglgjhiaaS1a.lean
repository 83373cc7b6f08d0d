/- Stage 1: the walks of UnitsArithmetic and UnitsEpochs. -/
import Derived.Test.YtdlbobpglgjhiaaUnits
set_option linter.unusedVariables false
namespace Go.Proofs.Ytdlbobpglgjhiaa
open Go.RowKit
end Go.Proofs.Ytdlbobpglgjhiaa
