/- What a law of nodes is told: its arguments. -/
import Derived.Test.YtflllkpnkcmegaaGreatDoorNodOf
import Derived.Test.YtflllkpnkcmegaaGreatDoorResC
import Derived.Test.YtflllkpnkcmegaaGreatDoorLab
import Derived.Test.YtflllkpnkcmegaaGreatDoorTai
namespace Go.Proofs.YtflllkpnkcmegaaGreatDoor
open Go.ChangeShapes Go.WideShapes Go.ChangeAt Go.RowKit Go.Deep
set_option linter.unusedVariables false

end Go.Proofs.YtflllkpnkcmegaaGreatDoor
