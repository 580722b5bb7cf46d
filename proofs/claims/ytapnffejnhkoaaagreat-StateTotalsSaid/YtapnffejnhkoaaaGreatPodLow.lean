/- A short pod. -/
import Derived.Test.YtapnffejnhkoaaaGreatPodP
import Derived.Test.YtapnffejnhkoaaaGreatPodClone
namespace Go.Proofs.YtapnffejnhkoaaaGreat
open Go.RowKit
set_option linter.unusedVariables false

theorem few_lowP {n : Pd} (h : fewPd n = true) : LowPd n := by
  obtain ⟨-, -, -, -, h1, h2, h3, h4⟩ := fewPd_parts h
  refine ⟨?_, ?_, ?_, ?_⟩
  · unfold Vec.fewV at h1; simp only [Bool.and_eq_true, decide_eq_true_eq] at h1; omega
  · have := (fewS_parts h2).1; omega
  · have := (fewL_parts h3).1; omega
  · have := (few_mid h4).1; omega
end Go.Proofs.YtapnffejnhkoaaaGreat
