/- Short rows are told shortly. -/
import Derived.Test.YtjihpbbeoiddkaaGreatNodA
import Derived.Test.YtjihpbbeoiddkaaGreatNodFew
namespace Go.Proofs.YtjihpbbeoiddkaaGreat
open Go.RowKit
set_option linter.unusedVariables false

end Go.Proofs.YtjihpbbeoiddkaaGreat
