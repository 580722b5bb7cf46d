/- What is parsed as a node is told just so. -/
import Derived.Test.YtfpgekjhcfoohaaGreatNodRefParse
import Derived.Test.YtfpgekjhcfoohaaGreatNodA
import Derived.Test.YtfpgekjhcfoohaaGreatLab
import Derived.Test.YtfpgekjhcfoohaaGreatTai
import Derived.Test.YtfpgekjhcfoohaaGreatResC
set_option linter.unusedVariables false
namespace Go.Proofs.YtfpgekjhcfoohaaGreat
open Go.RowKit
end Go.Proofs.YtfpgekjhcfoohaaGreat
