/- Whether two pods are the same: the reference's. -/
import Derived.Test.YtfpgekjhcfoohaaGreatPodP
namespace Go.Proofs.YtfpgekjhcfoohaaGreat
open Go.RowKit
set_option linter.unusedVariables false

end Go.Proofs.YtfpgekjhcfoohaaGreat
