/- A node as the reference has it: Of. -/
import Derived.Test.YtppbbgppooblfaaGreatDoorNodRefParse
import Derived.Test.YtppbbgppooblfaaGreatDoorLab
import Derived.Test.YtppbbgppooblfaaGreatDoorTai
namespace Go.Proofs.YtppbbgppooblfaaGreatDoor
open Go.RowKit
set_option linter.unusedVariables false

end Go.Proofs.YtppbbgppooblfaaGreatDoor
