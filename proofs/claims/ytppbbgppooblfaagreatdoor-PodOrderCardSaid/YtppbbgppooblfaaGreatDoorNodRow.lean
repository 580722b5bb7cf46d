/- What a law of nodes is told: its arguments. -/
import Derived.Test.YtppbbgppooblfaaGreatDoorNodOf
import Derived.Test.YtppbbgppooblfaaGreatDoorResC
import Derived.Test.YtppbbgppooblfaaGreatDoorLab
import Derived.Test.YtppbbgppooblfaaGreatDoorTai
namespace Go.Proofs.YtppbbgppooblfaaGreatDoor
open Go.ChangeShapes Go.WideShapes Go.ChangeAt Go.RowKit Go.Deep
set_option linter.unusedVariables false

theorem cellsV : Tryz.prog.cellsOf 23 = 1 := by kernel_rfl
theorem cellsL : Tryz.prog.cellsOf 50 = 1 := by kernel_rfl
end Go.Proofs.YtppbbgppooblfaaGreatDoor
