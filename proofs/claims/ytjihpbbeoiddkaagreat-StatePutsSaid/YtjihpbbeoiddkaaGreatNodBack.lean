/- What is parsed as a node is told just so. -/
import Derived.Test.YtjihpbbeoiddkaaGreatNodRefParse
import Derived.Test.YtjihpbbeoiddkaaGreatNodA
import Derived.Test.YtjihpbbeoiddkaaGreatLab
import Derived.Test.YtjihpbbeoiddkaaGreatTai
import Derived.Test.YtjihpbbeoiddkaaGreatResC
namespace Go.Proofs.YtjihpbbeoiddkaaGreat
open Go.RowKit
set_option linter.unusedVariables false

end Go.Proofs.YtjihpbbeoiddkaaGreat
