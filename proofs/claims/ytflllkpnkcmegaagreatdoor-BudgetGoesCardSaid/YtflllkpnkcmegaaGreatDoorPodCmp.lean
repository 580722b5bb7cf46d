/- Which pod is ahead. -/
import Derived.Test.YtflllkpnkcmegaaGreatDoorPodBase
namespace Go.Proofs.YtflllkpnkcmegaaGreatDoor
open Go.RowKit
set_option linter.unusedVariables false

end Go.Proofs.YtflllkpnkcmegaaGreatDoor
