/- Package by package: contracts of the functions that the laws call. -/
import Derived.Test.YtfpgekjhcfoohabGreatNodA
import Derived.Test.YtfpgekjhcfoohabGreatResC
import Derived.Test.YtfpgekjhcfoohabGreatNodBack
import Derived.Test.YtfpgekjhcfoohabGreatLab
import Derived.Test.YtfpgekjhcfoohabGreatPodP
import Derived.Test.YtfpgekjhcfoohabGreatPodParsed

/- A vector told, then parsed: the same. -/
namespace Go.Proofs.YtfpgekjhcfoohabGreat.Vec
open Go.RowKit Go.Proofs.YtfpgekjhcfoohabGreat
set_option linter.unusedVariables false

end Go.Proofs.YtfpgekjhcfoohabGreat.Vec

/- A node told, then parsed: the same. -/
namespace Go.Proofs.YtfpgekjhcfoohabGreat
open Go.RowKit
set_option linter.unusedVariables false

end Go.Proofs.YtfpgekjhcfoohabGreat

/- A pod told, then read: the same. -/
namespace Go.Proofs.YtfpgekjhcfoohabGreat
open Go.RowKit
set_option linter.unusedVariables false

end Go.Proofs.YtfpgekjhcfoohabGreat
