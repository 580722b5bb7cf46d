/- A node as the reference has it: Of. -/
import Derived.Test.YtjihpbbeoiddkaaGreatNodRefParse
import Derived.Test.YtjihpbbeoiddkaaGreatLab
import Derived.Test.YtjihpbbeoiddkaaGreatTai
namespace Go.Proofs.YtjihpbbeoiddkaaGreat
open Go.RowKit
set_option linter.unusedVariables false

/-- A node, its three rows spelt. -/
abbrev SX := Option Addr × Nat × Nat
abbrev NX := Nod × SX × SX × SX
abbrev slV (x : SX) : Value := .slice x.1 x.2.1 x.2.2
def At3 (w : World) (z : NX) : Prop := NodAt w (slV z.2.1) (slV z.2.2.1) (slV z.2.2.2) z.1
end Go.Proofs.YtjihpbbeoiddkaaGreat
