/- Package by package: contracts of the functions that the laws call. -/
import Derived.Test.YtfpgekjhcfoohaaGreatNodA
import Derived.Test.YtfpgekjhcfoohaaGreatResC
import Derived.Test.YtfpgekjhcfoohaaGreatNodBack
import Derived.Test.YtfpgekjhcfoohaaGreatLab
import Derived.Test.YtfpgekjhcfoohaaGreatPodP
import Derived.Test.YtfpgekjhcfoohaaGreatPodParsed
/- A vector told, then parsed: the same. -/
set_option linter.unusedVariables false
namespace Go.Proofs.YtfpgekjhcfoohaaGreat.Vec
open Go.RowKit Go.Proofs.YtfpgekjhcfoohaaGreat
end Go.Proofs.YtfpgekjhcfoohaaGreat.Vec
/- A node told, then parsed: the same. -/
namespace Go.Proofs.YtfpgekjhcfoohaaGreat
open Go.RowKit
open Go.RowKit
end Go.Proofs.YtfpgekjhcfoohaaGreat
