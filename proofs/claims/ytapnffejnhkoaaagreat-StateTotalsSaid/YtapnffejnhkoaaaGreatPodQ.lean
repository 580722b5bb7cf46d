/- Package by package: contracts of the functions that the laws call. -/
import Derived.Test.YtapnffejnhkoaaaGreatNodA
import Derived.Test.YtapnffejnhkoaaaGreatResC
import Derived.Test.YtapnffejnhkoaaaGreatNodBack
import Derived.Test.YtapnffejnhkoaaaGreatLab
import Derived.Test.YtapnffejnhkoaaaGreatPodP
import Derived.Test.YtapnffejnhkoaaaGreatPodParsed

/- A vector told, then parsed: the same. -/
namespace Go.Proofs.YtapnffejnhkoaaaGreat.Vec
open Go.RowKit Go.Proofs.YtapnffejnhkoaaaGreat
set_option linter.unusedVariables false

end Go.Proofs.YtapnffejnhkoaaaGreat.Vec

/- A node told, then parsed: the same. -/
namespace Go.Proofs.YtapnffejnhkoaaaGreat
open Go.RowKit
set_option linter.unusedVariables false

end Go.Proofs.YtapnffejnhkoaaaGreat

/- A pod told, then read: the same. -/
namespace Go.Proofs.YtapnffejnhkoaaaGreat
open Go.RowKit
set_option linter.unusedVariables false

end Go.Proofs.YtapnffejnhkoaaaGreat
