/- Rows of terms, of tolerations alike: slices.Equal, and the reference's loops. -/
import Derived.Test.YtflllkpnkcmegaaGreatDoorNodA
namespace Go.Proofs.YtflllkpnkcmegaaGreatDoor
open Go.RowKit
set_option linter.unusedVariables false

end Go.Proofs.YtflllkpnkcmegaaGreatDoor
