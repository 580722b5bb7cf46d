/- Pods: the one of a name. -/
import Derived.Test.YtjihpbbeoiddkaaGreatPodClone
import Derived.Test.YtjihpbbeoiddkaaGreatBase
import Derived.Deep.RegionHeld3
namespace Go.Proofs.YtjihpbbeoiddkaaGreat
open Go.RowKit
set_option linter.unusedVariables false

theorem nameOfP_any (n : Pd) (v1 v2 v3 v4 : Value) (w : World) : Calls Tryz.prog 68 #[PodV n v1 v2 v3 v4] w fun e w' => e = .returned (.string n.name) ∧ Kept w w' := by
  unfold PodV
  go_enter Tryz.func68, Tryz.ntmps68
  go_wp2
  go_ret
  exact ⟨rfl, kept_alloc _ _⟩
end Go.Proofs.YtjihpbbeoiddkaaGreat
