/- A pod's text read: the closure, the recovery, the face. -/
import Derived.Test.YtjihpbbeoiddkaaGreatPodParsed
import Derived.Recover
import Derived.Defers
import Derived.Laws.Pointers
namespace Go.Proofs.YtjihpbbeoiddkaaGreat
open Go.RowKit
set_option linter.unusedVariables false

end Go.Proofs.YtjihpbbeoiddkaaGreat
