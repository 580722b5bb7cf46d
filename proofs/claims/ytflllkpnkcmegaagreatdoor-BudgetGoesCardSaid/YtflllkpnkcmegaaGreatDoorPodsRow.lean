/- Rows of pods that came in. -/
import Derived.Test.YtflllkpnkcmegaaGreatDoorPodRow
import Derived.Test.YtflllkpnkcmegaaGreatDoorPodOfAll
namespace Go.Proofs.YtflllkpnkcmegaaGreatDoor
open Go.ChangeShapes Go.WideShapes Go.ChangeAt Go.RowKit Go.Deep
set_option linter.unusedVariables false

end Go.Proofs.YtflllkpnkcmegaaGreatDoor
