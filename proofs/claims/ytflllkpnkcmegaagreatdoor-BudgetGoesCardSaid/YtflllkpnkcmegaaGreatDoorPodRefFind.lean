/- The reference's FindPod. -/
import Derived.Test.YtflllkpnkcmegaaGreatDoorPodOf
import Derived.Test.YtflllkpnkcmegaaGreatDoorPodFind
namespace Go.Proofs.YtflllkpnkcmegaaGreatDoor
open Go.RowKit
set_option linter.unusedVariables false

end Go.Proofs.YtflllkpnkcmegaaGreatDoor
