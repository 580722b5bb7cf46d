/- A vector told, then parsed: the same. -/
import Derived.Test.YtjihpbbeoiddkaaGreatNodA
import Derived.Test.YtjihpbbeoiddkaaGreatResC
namespace Go.Proofs.YtjihpbbeoiddkaaGreat.Vec
open Go.RowKit Go.Proofs.YtjihpbbeoiddkaaGreat
set_option linter.unusedVariables false

end Go.Proofs.YtjihpbbeoiddkaaGreat.Vec
