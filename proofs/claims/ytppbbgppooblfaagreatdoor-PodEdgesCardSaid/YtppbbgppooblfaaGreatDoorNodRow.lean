/- What a law of nodes is told: its arguments. -/
import Derived.Test.YtppbbgppooblfaaGreatDoorNodOf
import Derived.Test.YtppbbgppooblfaaGreatDoorResC
import Derived.Test.YtppbbgppooblfaaGreatDoorLab
import Derived.Test.YtppbbgppooblfaaGreatDoorTai
namespace Go.Proofs.YtppbbgppooblfaaGreatDoor
open Go.ChangeShapes Go.WideShapes Go.ChangeAt Go.RowKit Go.Deep
set_option linter.unusedVariables false

end Go.Proofs.YtppbbgppooblfaaGreatDoor
