/- Rows of pods as the reference has them. -/
import Derived.Test.YtflllkpnkcmegaaGreatDoorPodOf
import Derived.Test.YtflllkpnkcmegaaGreatDoorNodOfAll
namespace Go.Proofs.YtflllkpnkcmegaaGreatDoor
open Go.RowKit
set_option linter.unusedVariables false

end Go.Proofs.YtflllkpnkcmegaaGreatDoor
