/- Clusters: what the reference puts, drops, moves, in plain words; in order it is the same. -/
import Derived.Test.YtapnffejnhkoaaaGreatStD
namespace Go.Proofs.YtapnffejnhkoaaaGreat
open Go.RowKit
set_option linter.unusedVariables false

end Go.Proofs.YtapnffejnhkoaaaGreat
