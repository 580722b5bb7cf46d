/- A node's text read: the reference. -/
import Derived.Test.YtppbbgppooblfaaGreatDoorNodB
import Derived.Test.YtppbbgppooblfaaGreatDoorLab
import Derived.Test.YtppbbgppooblfaaGreatDoorTai
import Derived.Test.YtppbbgppooblfaaGreatDoorResC
import Derived.BigRegion
namespace Go.Proofs.YtppbbgppooblfaaGreatDoor
open Go.RowKit
set_option linter.unusedVariables false

end Go.Proofs.YtppbbgppooblfaaGreatDoor
