/- A pod in words. -/
import Derived.Test.YtjihpbbeoiddkaaGreatPodBase
import Derived.Test.YtjihpbbeoiddkaaGreatNodShort
import Derived.Test.YtjihpbbeoiddkaaGreatBase
import Derived.Test.YtjihpbbeoiddkaaGreatTai
namespace Go.Proofs.YtjihpbbeoiddkaaGreat
open Go.RowKit
set_option linter.unusedVariables false

end Go.Proofs.YtjihpbbeoiddkaaGreat
