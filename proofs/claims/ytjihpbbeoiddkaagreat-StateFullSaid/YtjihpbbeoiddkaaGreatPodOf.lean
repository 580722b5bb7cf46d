/- A pod as the reference has it: Of. -/
import Derived.Test.YtjihpbbeoiddkaaGreatPodParsed
import Derived.Test.YtjihpbbeoiddkaaGreatNodOf
namespace Go.Proofs.YtjihpbbeoiddkaaGreat
open Go.RowKit
set_option linter.unusedVariables false

/-- A pod, its four rows spelt. -/
abbrev PX := Pd × SX × SX × SX × SX
def At4 (w : World) (z : PX) : Prop := PodAt w (slV z.2.1) (slV z.2.2.1) (slV z.2.2.2.1) (slV z.2.2.2.2) z.1
/-- A row lies between two blocks. -/
def Btw (lo hi : Nat) (a : Option Addr) : Prop := ∀ b off sp, a = some ⟨b, off, sp⟩ → lo ≤ b ∧ b < hi
theorem Btw.behind {lo hi : Nat} {a : Option Addr} (h : Btw lo hi a) : Behind lo a := fun b o s e => (h b o s e).1
theorem PodAt.at4 {w : World} {n : Pd} {x1 x2 x3 x4 : SX} (h : PodAt w (slV x1) (slV x2) (slV x3) (slV x4) n) : At4 w (n, x1, x2, x3, x4) := h

end Go.Proofs.YtjihpbbeoiddkaaGreat
