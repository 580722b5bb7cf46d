/- A node's text read: the reference. -/
import Derived.Test.YtjihpbbeoiddkaaGreatNodB
import Derived.Test.YtjihpbbeoiddkaaGreatLab
import Derived.Test.YtjihpbbeoiddkaaGreatTai
import Derived.Test.YtjihpbbeoiddkaaGreatResC
import Derived.BigRegion
namespace Go.Proofs.YtjihpbbeoiddkaaGreat
open Go.RowKit
set_option linter.unusedVariables false

end Go.Proofs.YtjihpbbeoiddkaaGreat
