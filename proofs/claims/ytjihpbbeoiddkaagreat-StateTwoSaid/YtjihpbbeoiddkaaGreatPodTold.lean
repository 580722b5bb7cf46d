/- A pod told, then read: the same. -/
import Derived.Test.YtjihpbbeoiddkaaGreatPodText
import Derived.Test.YtjihpbbeoiddkaaGreatPodParsed
import Derived.Test.YtjihpbbeoiddkaaGreatNodTold
namespace Go.Proofs.YtjihpbbeoiddkaaGreat
open Go.RowKit
set_option linter.unusedVariables false

end Go.Proofs.YtjihpbbeoiddkaaGreat
