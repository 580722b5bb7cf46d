/- A node as the reference has it: Of. -/
import Derived.Test.YtflllkpnkcmegaaGreatDoorNodRefParse
import Derived.Test.YtflllkpnkcmegaaGreatDoorLab
import Derived.Test.YtflllkpnkcmegaaGreatDoorTai
namespace Go.Proofs.YtflllkpnkcmegaaGreatDoor
open Go.RowKit
set_option linter.unusedVariables false

/-- A node, its three rows spelt. -/
abbrev SX := Option Addr × Nat × Nat
abbrev slV (x : SX) : Value := .slice x.1 x.2.1 x.2.2
theorem vec_spelt {T : TypeId} {w w' : World} {e : Ending} {l : Vec.V} (h : ∃ x, e = .returned x ∧ Vec.OwnV T w' w.heap.size x l ∧ Kept w w') : ∃ a m c, e = .returned (.slice a m c) ∧ Vec.Reads w' (.slice a m c) l ∧ (∀ b off sp, a = some ⟨b, off, sp⟩ → w.heap.size ≤ b ∧ b < w'.heap.size) ∧ Kept w w' := by
  obtain ⟨x, rfl, ho, k⟩ := h
  obtain ⟨a, cap, rfl, h⟩ := ho.at_
  exact ⟨a, _, cap, rfl, ⟨a, cap, rfl, h⟩, fun b off sp e => ho.1.lt b (by subst e; rfl), k⟩
theorem row_spelt {α : Type} {L : Lay α} {T : TypeId} {w w' : World} {e : Ending} {l : List α} (h : ∃ x, e = .returned x ∧ Own L T w' w.heap.size x l ∧ Kept w w') : ∃ a m c, e = .returned (.slice a m c) ∧ Reads L w' (.slice a m c) l ∧ (∀ b off sp, a = some ⟨b, off, sp⟩ → w.heap.size ≤ b ∧ b < w'.heap.size) ∧ Kept w w' := by
  obtain ⟨x, rfl, ho, k⟩ := h
  obtain ⟨a, cap, rfl, h⟩ := ho.at_
  exact ⟨a, _, cap, rfl, ⟨a, cap, rfl, h⟩, fun b off sp e => ho.1.lt b (by subst e; rfl), k⟩
end Go.Proofs.YtflllkpnkcmegaaGreatDoor
