/- A pod's single words read. -/
import Derived.Test.YtjihpbbeoiddkaaGreatPodClone
import Derived.Test.YtjihpbbeoiddkaaGreatBase
import Derived.Test.YtjihpbbeoiddkaaGreatResB
import Derived.Lib.AtoiErrMem
namespace Go.Proofs.YtjihpbbeoiddkaaGreat
open Go.RowKit
set_option linter.unusedVariables false

end Go.Proofs.YtjihpbbeoiddkaaGreat
