/- Package by package: contracts of the functions that the laws call. -/
import Derived.Test.YtjihpbbeoiddkaaGreatNodA
import Derived.Test.YtjihpbbeoiddkaaGreatResC
import Derived.Test.YtjihpbbeoiddkaaGreatNodBack
import Derived.Test.YtjihpbbeoiddkaaGreatLab
import Derived.Test.YtjihpbbeoiddkaaGreatPodP
import Derived.Test.YtjihpbbeoiddkaaGreatPodParsed
import Derived.Recover
import Derived.Defers
import Derived.Laws.Pointers

/- A vector told, then parsed: the same. -/
namespace Go.Proofs.YtjihpbbeoiddkaaGreat.Vec
open Go.RowKit Go.Proofs.YtjihpbbeoiddkaaGreat
set_option linter.unusedVariables false

end Go.Proofs.YtjihpbbeoiddkaaGreat.Vec

/- A node told, then parsed: the same. -/
namespace Go.Proofs.YtjihpbbeoiddkaaGreat
open Go.RowKit
set_option linter.unusedVariables false

end Go.Proofs.YtjihpbbeoiddkaaGreat

/- A pod told, then read: the same. -/
namespace Go.Proofs.YtjihpbbeoiddkaaGreat
open Go.RowKit
set_option linter.unusedVariables false

end Go.Proofs.YtjihpbbeoiddkaaGreat

/- A pod's text read: the closure, the recovery, the face. -/
namespace Go.Proofs.YtjihpbbeoiddkaaGreat
open Go.RowKit
set_option linter.unusedVariables false

end Go.Proofs.YtjihpbbeoiddkaaGreat

/- The pods that the laws know, reckoned. -/
namespace Go.Proofs.YtjihpbbeoiddkaaGreat.Pk
open Go.RowKit
set_option linter.unusedVariables false

def bP : ByteArray := ⟨#[112, 49]⟩
def bWeb : ByteArray := ⟨#[119, 101, 98]⟩
def bCpu : ByteArray := ⟨#[99, 112, 117]⟩
def bApp : ByteArray := ⟨#[97, 112, 112]⟩
def bZone : ByteArray := ⟨#[122, 111, 110, 101]⟩
def bA : ByteArray := ⟨#[97]⟩
def bGpu : ByteArray := ⟨#[103, 112, 117]⟩
def bN : ByteArray := ⟨#[110, 49]⟩
def bH : ByteArray := ⟨#[104, 111, 108, 100, 48]⟩
abbrev bE : ByteArray := ByteArray.empty
abbrev c1 : Vec.V := [(bCpu, 5)]
abbrev p1 : PL := [(bApp, bWeb)]
abbrev s1 : TL := [(1, bZone, bA)]
abbrev t1 : NL := [(bGpu, bE, true)]
abbrev k1 : Pd := ⟨bP, bWeb, 10, c1, p1, s1, t1, bZone, 2, bN, false⟩
abbrev k2 : Pd := ⟨bH, bE, -1, c1, [], [], [], bE, 0, bN, true⟩
abbrev k5 : Pd := ⟨bP, bE, 1, [], [], [], [], bZone, 0, bN, false⟩
end Go.Proofs.YtjihpbbeoiddkaaGreat.Pk
