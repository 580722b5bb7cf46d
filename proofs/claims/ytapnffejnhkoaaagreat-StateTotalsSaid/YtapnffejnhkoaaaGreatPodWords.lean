/- A pod's single words read. -/
import Derived.Test.YtapnffejnhkoaaaGreatPodClone
import Derived.Test.YtapnffejnhkoaaaGreatBase
import Derived.Test.YtapnffejnhkoaaaGreatResB
import Derived.Lib.AtoiErrMem
namespace Go.Proofs.YtapnffejnhkoaaaGreat
open Go.RowKit
set_option linter.unusedVariables false

end Go.Proofs.YtapnffejnhkoaaaGreat
