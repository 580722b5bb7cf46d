/- Whether two pods are the same: the reference's. -/
import Derived.Test.YtjihpbbeoiddkaaGreatPodP
namespace Go.Proofs.YtjihpbbeoiddkaaGreat
open Go.RowKit
set_option linter.unusedVariables false

end Go.Proofs.YtjihpbbeoiddkaaGreat
