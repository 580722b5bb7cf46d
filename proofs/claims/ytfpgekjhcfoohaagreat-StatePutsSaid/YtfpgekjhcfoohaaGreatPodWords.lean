/- A pod's single words read. -/
import Derived.Test.YtfpgekjhcfoohaaGreatPodClone
import Derived.Test.YtfpgekjhcfoohaaGreatBase
import Derived.Test.YtfpgekjhcfoohaaGreatResB
import Derived.Lib.AtoiErrMem
namespace Go.Proofs.YtfpgekjhcfoohaaGreat
open Go.RowKit
set_option linter.unusedVariables false

end Go.Proofs.YtfpgekjhcfoohaaGreat
