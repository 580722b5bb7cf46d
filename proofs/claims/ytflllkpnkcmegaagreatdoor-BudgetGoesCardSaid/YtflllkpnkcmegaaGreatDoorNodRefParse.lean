/- A node's text read: the reference. -/
import Derived.Test.YtflllkpnkcmegaaGreatDoorNodB
import Derived.Test.YtflllkpnkcmegaaGreatDoorLab
import Derived.Test.YtflllkpnkcmegaaGreatDoorTai
import Derived.Test.YtflllkpnkcmegaaGreatDoorResC
import Derived.BigRegion
namespace Go.Proofs.YtflllkpnkcmegaaGreatDoor
open Go.RowKit
set_option linter.unusedVariables false

end Go.Proofs.YtflllkpnkcmegaaGreatDoor
