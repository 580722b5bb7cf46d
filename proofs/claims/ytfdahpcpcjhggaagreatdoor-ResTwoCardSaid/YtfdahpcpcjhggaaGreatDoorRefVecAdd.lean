/- The reference's AddVec. -/
import Derived.Test.YtfdahpcpcjhggaaGreatDoorRefVecBase
import Derived.Deep.RegionHeld3
namespace Go.Proofs.YtfdahpcpcjhggaaGreatDoor.Vec
open Go.RowKit Go.Proofs.YtfdahpcpcjhggaaGreatDoor
set_option linter.unusedVariables false

