/- Whether two pods are the same: the program's, the reference's. -/
import Derived.Test.YtflllkpnkcmegaaGreatDoorPodBase
import Derived.Test.YtflllkpnkcmegaaGreatDoorPodSame
namespace Go.Proofs.YtflllkpnkcmegaaGreatDoor
open Go.RowKit
set_option linter.unusedVariables false

end Go.Proofs.YtflllkpnkcmegaaGreatDoor
