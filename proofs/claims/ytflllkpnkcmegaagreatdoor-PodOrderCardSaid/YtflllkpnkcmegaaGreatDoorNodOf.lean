/- A node as the reference has it: Of. -/
import Derived.Test.YtflllkpnkcmegaaGreatDoorNodRefParse
import Derived.Test.YtflllkpnkcmegaaGreatDoorLab
import Derived.Test.YtflllkpnkcmegaaGreatDoorTai
namespace Go.Proofs.YtflllkpnkcmegaaGreatDoor
open Go.RowKit
set_option linter.unusedVariables false

end Go.Proofs.YtflllkpnkcmegaaGreatDoor
