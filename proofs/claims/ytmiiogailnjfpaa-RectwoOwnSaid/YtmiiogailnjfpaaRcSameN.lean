/- The law's sameNode, where both are one. -/
import Derived.Test.YtmiiogailnjfpaaRcPureNodeB
namespace Go.Proofs.Ytmiiogailnjfpaa
open Go.RowKit
set_option linter.unusedVariables false
end Go.Proofs.Ytmiiogailnjfpaa
