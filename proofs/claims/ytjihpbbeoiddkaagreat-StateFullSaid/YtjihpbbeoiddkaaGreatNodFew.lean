/- Whether a node is short. -/
import Derived.Test.YtjihpbbeoiddkaaGreatNodOf
import Derived.Test.YtjihpbbeoiddkaaGreatLab
import Derived.Test.YtjihpbbeoiddkaaGreatTai
namespace Go.Proofs.YtjihpbbeoiddkaaGreat
open Go.RowKit
set_option linter.unusedVariables false

end Go.Proofs.YtjihpbbeoiddkaaGreat
