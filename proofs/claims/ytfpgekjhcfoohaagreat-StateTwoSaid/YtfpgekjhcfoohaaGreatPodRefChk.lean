/- The reference's CheckPod. -/
import Derived.Test.YtfpgekjhcfoohaaGreatPodBase
import Derived.Test.YtfpgekjhcfoohaaGreatPodQ
namespace Go.Proofs.YtfpgekjhcfoohaaGreat
open Go.RowKit
set_option linter.unusedVariables false

end Go.Proofs.YtfpgekjhcfoohaaGreat
