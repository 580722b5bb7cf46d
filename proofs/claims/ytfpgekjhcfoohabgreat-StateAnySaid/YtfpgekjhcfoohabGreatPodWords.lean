/- A pod's single words read. -/
import Derived.Test.YtfpgekjhcfoohabGreatPodClone
import Derived.Test.YtfpgekjhcfoohabGreatBase
import Derived.Test.YtfpgekjhcfoohabGreatResB
import Derived.Lib.AtoiErrMem
namespace Go.Proofs.YtfpgekjhcfoohabGreat
open Go.RowKit
set_option linter.unusedVariables false

end Go.Proofs.YtfpgekjhcfoohabGreat
