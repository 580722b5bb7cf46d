/- Whether a pod is short. -/
import Derived.Test.YtflllkpnkcmegaaGreatDoorPodText
import Derived.Test.YtflllkpnkcmegaaGreatDoorTai
import Derived.Test.YtflllkpnkcmegaaGreatDoorLab
namespace Go.Proofs.YtflllkpnkcmegaaGreatDoor
open Go.RowKit
set_option linter.unusedVariables false

end Go.Proofs.YtflllkpnkcmegaaGreatDoor
