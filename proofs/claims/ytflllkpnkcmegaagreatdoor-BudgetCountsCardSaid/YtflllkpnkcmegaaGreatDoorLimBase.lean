/- As many nodes as may be, in order, and two exchanged: what they are. -/
import Derived.Test.YtflllkpnkcmegaaGreatDoorNodC
namespace Go.Proofs.YtflllkpnkcmegaaGreatDoor.Nk
open Go.RowKit
set_option linter.unusedVariables false

def nmL (j : Nat) : List UInt8 := [110, UInt8.ofNat (97 + j / 26), UInt8.ofNat (97 + j % 26)]
theorem nm_less : ∀ a, a < 36 → ∀ b, b < 36 → (Op.bytesLess (nmL a) (nmL b) || nmL a == nmL b) = decide (a ≤ b) := by decide +kernel
end Go.Proofs.YtflllkpnkcmegaaGreatDoor.Nk
