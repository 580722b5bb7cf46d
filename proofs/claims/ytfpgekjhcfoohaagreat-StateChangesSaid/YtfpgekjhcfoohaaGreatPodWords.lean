/- A pod's single words read. -/
import Derived.Test.YtfpgekjhcfoohaaGreatPodClone
import Derived.Test.YtfpgekjhcfoohaaGreatBase
import Derived.Test.YtfpgekjhcfoohaaGreatResB
import Derived.Lib.AtoiErrMem
set_option linter.unusedVariables false
namespace Go.Proofs.YtfpgekjhcfoohaaGreat
open Go.RowKit
end Go.Proofs.YtfpgekjhcfoohaaGreat
