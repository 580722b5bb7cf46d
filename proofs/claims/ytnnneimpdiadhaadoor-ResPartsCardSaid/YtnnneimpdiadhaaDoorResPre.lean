/- What the laws begin with. -/
import Derived.Test.YtnnneimpdiadhaaDoorResKnown
import Derived.Test.YtnnneimpdiadhaaDoorResOf
import Derived.Test.YtnnneimpdiadhaaDoorResAlgLaws
namespace Go.Proofs.YtnnneimpdiadhaaDoor.Vec
open Go.RowKit
set_option linter.unusedVariables false

theorem Reads.fine {v : Value} {l : V} {w : World} (h : Reads w v l) : Fine l := by
  obtain ⟨a, cap, rfl, h1, h2, h3⟩ := h
  exact h3.2.2.1
theorem ofR {v : Value} {l : V} {w : World} (h : Reads w v l) (hf : fewV l = true) :
    Calls Tryd.prog 9 #[v] w fun e w' => ∃ x, e = .returned x ∧ Reads w' x l ∧ Kept w w' := by
  obtain ⟨a, cap, rfl, h1, h2, h3⟩ := h
  unfold fewV at hf
  simp only [Bool.and_eq_true, decide_eq_true_eq] at hf
  exact of_any a _ cap l w h3 (by omega)

end Go.Proofs.YtnnneimpdiadhaaDoor.Vec
