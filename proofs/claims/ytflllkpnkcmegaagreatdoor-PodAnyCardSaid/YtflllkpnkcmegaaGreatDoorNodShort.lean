/- Short rows are told shortly. -/
import Derived.Test.YtflllkpnkcmegaaGreatDoorNodA
import Derived.Test.YtflllkpnkcmegaaGreatDoorNodFew
namespace Go.Proofs.YtflllkpnkcmegaaGreatDoor
open Go.RowKit
set_option linter.unusedVariables false

theorem fewS_parts {l : PL} (h : fewS l = true) : l.length ≤ 20 ∧ ∀ x ∈ l, x.1.size ≤ 50 ∧ x.2.size ≤ 50 := by
  unfold fewS at h
  simp only [Bool.and_eq_true, decide_eq_true_eq, List.all_eq_true] at h
  refine ⟨h.1, fun x hx => ?_⟩
  have := h.2 x hx
  unfold fewP at this
  simpa only [Bool.and_eq_true, decide_eq_true_eq] using this
theorem fewL_parts {l : TL} (h : fewL l = true) : l.length ≤ 20 ∧ ∀ x ∈ l, x.2.1.size ≤ 50 ∧ x.2.2.size ≤ 50 := by
  unfold fewL at h
  simp only [Bool.and_eq_true, decide_eq_true_eq, List.all_eq_true] at h
  refine ⟨h.1, fun x hx => ?_⟩
  have := h.2 x hx
  unfold fewT at this
  simpa only [Bool.and_eq_true, decide_eq_true_eq] using this
theorem one_size (c : UInt8) : (⟨#[c]⟩ : ByteArray).size = 1 := rfl
theorem textS_short {l : PL} (h : fewS l = true) : (textS l).size ≤ 5000 := by
  obtain ⟨h1, h2⟩ := fewS_parts h
  unfold textS
  split
  · decide
  · have := joinB_short (ts := l.map pairB) (B := 101) (fun z hz => by
      obtain ⟨x, hx, rfl⟩ := List.mem_map.1 hz
      have := h2 x hx
      unfold pairB
      rw [ByteArray.size_append, ByteArray.size_append, one_size]
      omega)
    rw [List.length_map] at this
    omega
end Go.Proofs.YtflllkpnkcmegaaGreatDoor
