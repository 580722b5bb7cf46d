/- Whether a node is short. -/
import Derived.Test.YtppbbgppooblfaaGreatDoorNodOf
import Derived.Test.YtppbbgppooblfaaGreatDoorLab
import Derived.Test.YtppbbgppooblfaaGreatDoorTai
namespace Go.Proofs.YtppbbgppooblfaaGreatDoor
open Go.RowKit
set_option linter.unusedVariables false

end Go.Proofs.YtppbbgppooblfaaGreatDoor
