/- What is parsed as a node is told just so. -/
import Derived.Test.YtppbbgppooblfaaGreatDoorNodRefParse
import Derived.Test.YtppbbgppooblfaaGreatDoorNodA
import Derived.Test.YtppbbgppooblfaaGreatDoorLab
import Derived.Test.YtppbbgppooblfaaGreatDoorTai
import Derived.Test.YtppbbgppooblfaaGreatDoorResC
namespace Go.Proofs.YtppbbgppooblfaaGreatDoor
open Go.RowKit
set_option linter.unusedVariables false

end Go.Proofs.YtppbbgppooblfaaGreatDoor
