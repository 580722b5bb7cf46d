/- As many nodes as may be, in order, and one more: the law, for its card. -/
import Derived.Test.YtppbbgppooblfaaGreatDoorNodLim
import Derived.OpenShut
namespace Go.Proofs.YtppbbgppooblfaaGreatDoor
open Go.RowKit
set_option linter.unusedVariables false

theorem NodeLimits_walk (n m : Int) (w : World) (hE : Vec.EnvT w) (hn : (Lit.int .u8 n).wf = true) (hm : (Lit.int .u8 m).wf = true) :
    Calls Tryz.prog 8 #[.int .u8 n, .int .u8 m] w fun e w' => e = .returned (.bool true) ∧ Kept w w' := by
  have a := bounds_u8 hn
  have b := bounds_u8 hm
  exact Nk.limits_any n m w hE ⟨a.1, by omega⟩ ⟨b.1, by omega⟩

end Go.Proofs.YtppbbgppooblfaaGreatDoor
