/- The reference's CheckPod. -/
import Derived.Test.YtjihpbbeoiddkaaGreatPodBase
import Derived.Test.YtjihpbbeoiddkaaGreatPodTold
namespace Go.Proofs.YtjihpbbeoiddkaaGreat
open Go.RowKit
set_option linter.unusedVariables false

end Go.Proofs.YtjihpbbeoiddkaaGreat
