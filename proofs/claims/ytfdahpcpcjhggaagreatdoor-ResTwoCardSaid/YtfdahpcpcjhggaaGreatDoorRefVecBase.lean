/- The reference's sums and differences of vectors: plain words, both and whole. -/
import Derived.Test.YtfdahpcpcjhggaaGreatDoorRefNamesW
import Derived.Test.YtfdahpcpcjhggaaGreatDoorResC
import Derived.Test.YtfdahpcpcjhggaaGreatDoorResA
namespace Go.Proofs.YtfdahpcpcjhggaaGreatDoor.Vec
open Go.RowKit Go.Proofs.YtfdahpcpcjhggaaGreatDoor
set_option linter.unusedVariables false

end Go.Proofs.YtfdahpcpcjhggaaGreatDoor.Vec
