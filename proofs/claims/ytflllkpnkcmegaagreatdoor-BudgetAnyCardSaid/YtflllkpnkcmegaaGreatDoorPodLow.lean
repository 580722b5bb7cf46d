/- A short pod. -/
import Derived.Test.YtflllkpnkcmegaaGreatDoorPodText
import Derived.Test.YtflllkpnkcmegaaGreatDoorPodClone
namespace Go.Proofs.YtflllkpnkcmegaaGreatDoor
open Go.RowKit
set_option linter.unusedVariables false

theorem few_lowP {n : Pd} (h : fewPd n = true) : LowPd n := by
  obtain ⟨-, -, -, -, h1, h2, h3, h4⟩ := fewPd_parts h
  refine ⟨?_, ?_, ?_, ?_⟩
  · unfold Vec.fewV at h1; simp only [Bool.and_eq_true, decide_eq_true_eq] at h1; omega
  · have := (fewS_parts h2).1; omega
  · have := (fewL_parts h3).1; omega
  · have := (few_mid h4).1; omega
theorem few_nextP {l : List Pd} {k : Nat} {n : Pd} (hn : l[k]? = some n) (h : ∀ x ∈ l.take k, fewPd x = true) (hf : fewPd n = true) : ∀ x ∈ l.take (k + 1), fewPd x = true := by
  intro x hx
  rw [take_snoc hn] at hx
  rcases List.mem_append.1 hx with hx | hx
  · exact h x hx
  · obtain rfl : x = n := by simpa using hx
    exact hf

end Go.Proofs.YtflllkpnkcmegaaGreatDoor
