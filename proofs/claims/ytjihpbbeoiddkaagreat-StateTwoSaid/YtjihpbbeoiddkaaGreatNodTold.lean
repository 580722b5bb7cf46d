/- A node told, then parsed: the same. -/
import Derived.Test.YtjihpbbeoiddkaaGreatNodBack
import Derived.Test.YtjihpbbeoiddkaaGreatVecTold
import Derived.Test.YtjihpbbeoiddkaaGreatLab
namespace Go.Proofs.YtjihpbbeoiddkaaGreat
open Go.RowKit
set_option linter.unusedVariables false

end Go.Proofs.YtjihpbbeoiddkaaGreat
