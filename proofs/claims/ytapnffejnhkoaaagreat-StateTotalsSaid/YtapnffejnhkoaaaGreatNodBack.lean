/- What is parsed as a node is told just so. -/
import Derived.Test.YtapnffejnhkoaaaGreatNodRefParse
import Derived.Test.YtapnffejnhkoaaaGreatNodA
import Derived.Test.YtapnffejnhkoaaaGreatLab
import Derived.Test.YtapnffejnhkoaaaGreatTai
import Derived.Test.YtapnffejnhkoaaaGreatResC
namespace Go.Proofs.YtapnffejnhkoaaaGreat
open Go.RowKit
set_option linter.unusedVariables false

end Go.Proofs.YtapnffejnhkoaaaGreat
