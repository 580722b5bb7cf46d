/- Which pod is ahead. -/
import Derived.Test.YtjihpbbeoiddkaaGreatPodBase
namespace Go.Proofs.YtjihpbbeoiddkaaGreat
open Go.RowKit
set_option linter.unusedVariables false

end Go.Proofs.YtjihpbbeoiddkaaGreat
