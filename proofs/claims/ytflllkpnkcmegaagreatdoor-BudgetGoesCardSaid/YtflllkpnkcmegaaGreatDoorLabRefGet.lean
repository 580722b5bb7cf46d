/- The reference's Label, Match. -/
import Derived.Test.YtflllkpnkcmegaaGreatDoorLab
namespace Go.Proofs.YtflllkpnkcmegaaGreatDoor
open Go.RowKit
set_option linter.unusedVariables false

end Go.Proofs.YtflllkpnkcmegaaGreatDoor
