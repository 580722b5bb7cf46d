/- What a law of nodes is told: its arguments. -/
import Derived.Test.YtflllkpnkcmegaaGreatDoorNodOf
import Derived.Test.YtflllkpnkcmegaaGreatDoorResC
import Derived.Test.YtflllkpnkcmegaaGreatDoorLab
import Derived.Test.YtflllkpnkcmegaaGreatDoorTai
namespace Go.Proofs.YtflllkpnkcmegaaGreatDoor
open Go.ChangeShapes Go.WideShapes Go.ChangeAt Go.RowKit Go.Deep
set_option linter.unusedVariables false

theorem cellsV : Tryz.prog.cellsOf 23 = 1 := by kernel_rfl
theorem cellsL : Tryz.prog.cellsOf 25 = 1 := by kernel_rfl
end Go.Proofs.YtflllkpnkcmegaaGreatDoor
