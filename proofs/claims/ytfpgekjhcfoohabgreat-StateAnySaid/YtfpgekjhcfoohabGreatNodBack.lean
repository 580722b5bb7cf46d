/- What is parsed as a node is told just so. -/
import Derived.Test.YtfpgekjhcfoohabGreatNodRefParse
import Derived.Test.YtfpgekjhcfoohabGreatNodA
import Derived.Test.YtfpgekjhcfoohabGreatLab
import Derived.Test.YtfpgekjhcfoohabGreatTai
import Derived.Test.YtfpgekjhcfoohabGreatResC
namespace Go.Proofs.YtfpgekjhcfoohabGreat
open Go.RowKit
set_option linter.unusedVariables false

end Go.Proofs.YtfpgekjhcfoohabGreat
