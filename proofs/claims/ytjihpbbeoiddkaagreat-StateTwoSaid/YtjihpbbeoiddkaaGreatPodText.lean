/- A pod in words. -/
import Derived.Test.YtjihpbbeoiddkaaGreatPodBase
import Derived.Test.YtjihpbbeoiddkaaGreatNodShort
import Derived.Test.YtjihpbbeoiddkaaGreatBase
import Derived.Test.YtjihpbbeoiddkaaGreatTai
namespace Go.Proofs.YtjihpbbeoiddkaaGreat
open Go.RowKit
set_option linter.unusedVariables false

/-- Is it short? -/
def fewPd (n : Pd) : Bool := decide (n.name.size ≤ 50) && (decide (n.owner.size ≤ 50) && (decide (n.key.size ≤ 50) && (decide (n.node.size ≤ 50) && (Vec.fewV n.need && (fewS n.labels && (fewL n.sel && fewN n.tols))))))
theorem fewPd_parts {n : Pd} (h : fewPd n = true) : n.name.size ≤ 50 ∧ n.owner.size ≤ 50 ∧ n.key.size ≤ 50 ∧ n.node.size ≤ 50 ∧ Vec.fewV n.need = true ∧ fewS n.labels = true ∧ fewL n.sel = true ∧ fewN n.tols = true := by
  unfold fewPd at h
  simpa only [Bool.and_eq_true, decide_eq_true_eq] using h
end Go.Proofs.YtjihpbbeoiddkaaGreat
