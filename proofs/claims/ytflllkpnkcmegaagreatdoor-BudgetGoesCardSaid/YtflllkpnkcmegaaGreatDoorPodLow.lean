/- A short pod. -/
import Derived.Test.YtflllkpnkcmegaaGreatDoorPodText
import Derived.Test.YtflllkpnkcmegaaGreatDoorPodClone
namespace Go.Proofs.YtflllkpnkcmegaaGreatDoor
open Go.RowKit
set_option linter.unusedVariables false

end Go.Proofs.YtflllkpnkcmegaaGreatDoor
