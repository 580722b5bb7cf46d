/- Short rows are told shortly. -/
import Derived.Test.YtfpgekjhcfoohaaGreatNodA
import Derived.Test.YtfpgekjhcfoohaaGreatNodFew
set_option linter.unusedVariables false
namespace Go.Proofs.YtfpgekjhcfoohaaGreat
open Go.RowKit
theorem fewS_parts {l : PL} (h : fewS l = true) : l.length ≤ 20 ∧ ∀ x ∈ l, x.1.size ≤ 50 ∧ x.2.size ≤ 50 := by
 unfold fewS at h
 simp only [Bool.and_eq_true, decide_eq_true_eq, List.all_eq_true] at h
 refine ⟨h.1, fun x hx => ?_⟩
 have := h.2 x hx
 unfold fewP at this
 simpa only [Bool.and_eq_true, decide_eq_true_eq] using this
theorem fewL_parts {l : TL} (h : fewL l = true) : l.length ≤ 20 ∧ ∀ x ∈ l, x.2.1.size ≤ 50 ∧ x.2.2.size ≤ 50 := by
 unfold fewL at h
 simp only [Bool.and_eq_true, decide_eq_true_eq, List.all_eq_true] at h
 refine ⟨h.1, fun x hx => ?_⟩
 have := h.2 x hx
 unfold fewT at this
 simpa only [Bool.and_eq_true, decide_eq_true_eq] using this
end Go.Proofs.YtfpgekjhcfoohaaGreat
