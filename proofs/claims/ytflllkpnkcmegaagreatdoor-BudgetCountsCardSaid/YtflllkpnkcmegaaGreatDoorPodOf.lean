/- A pod as the reference has it: Of. -/
import Derived.Test.YtflllkpnkcmegaaGreatDoorPodParsed
import Derived.Test.YtflllkpnkcmegaaGreatDoorNodOf
namespace Go.Proofs.YtflllkpnkcmegaaGreatDoor
open Go.RowKit
set_option linter.unusedVariables false

end Go.Proofs.YtflllkpnkcmegaaGreatDoor
