/- What is parsed as a node is told just so. -/
import Derived.Test.YtflllkpnkcmegaaGreatDoorNodRefParse
import Derived.Test.YtflllkpnkcmegaaGreatDoorNodA
import Derived.Test.YtflllkpnkcmegaaGreatDoorLab
import Derived.Test.YtflllkpnkcmegaaGreatDoorTai
import Derived.Test.YtflllkpnkcmegaaGreatDoorResC
namespace Go.Proofs.YtflllkpnkcmegaaGreatDoor
open Go.RowKit
set_option linter.unusedVariables false

end Go.Proofs.YtflllkpnkcmegaaGreatDoor
