/- Labels in their order; one more where it belongs. -/
import Derived.Test.YtflllkpnkcmegaaGreatDoorLab
namespace Go.Proofs.YtflllkpnkcmegaaGreatDoor
open Go.RowKit
set_option linter.unusedVariables false

theorem less_irrefl : ∀ s : List UInt8, Op.bytesLess s s = false
  | [] => rfl
  | a :: s => by
    have : ¬ a < a := UInt8.lt_irrefl a
    simp [Op.bytesLess, less_irrefl s, this]
theorem less_trans : ∀ {a b c : List UInt8}, Op.bytesLess a b = true → Op.bytesLess b c = true → Op.bytesLess a c = true
  | _, _, [], _, h => by simp [Op.bytesLess] at h
  | [], _, _ :: _, _, _ => by simp [Op.bytesLess]
  | x :: a, [], z :: c, h, _ => by simp [Op.bytesLess] at h
  | x :: a, y :: b, z :: c, h, g => by
    simp only [Op.bytesLess, Bool.or_eq_true, Bool.and_eq_true, decide_eq_true_eq, beq_iff_eq] at h g ⊢
    rcases h with h | ⟨rfl, h⟩
    · rcases g with g | ⟨rfl, g⟩
      · exact .inl (UInt8.lt_trans h g)
      · exact .inl h
    · rcases g with g | ⟨rfl, g⟩
      · exact .inl g
      · exact .inr ⟨rfl, less_trans h g⟩
theorem less_tri : ∀ {a b : List UInt8}, Op.bytesLess a b = false → Op.bytesLess b a = false → a = b
  | [], [], _, _ => rfl
  | [], _ :: _, h, _ => by simp [Op.bytesLess] at h
  | _ :: _, [], _, h => by simp [Op.bytesLess] at h
  | x :: a, y :: b, h, g => by
    simp only [Op.bytesLess, Bool.or_eq_false_iff, decide_eq_false_iff_not, Bool.and_eq_false_iff, beq_eq_false_iff_ne] at h g
    have e : x = y := by
      have h1 := UInt8.not_lt.1 h.1
      have h2 := UInt8.not_lt.1 g.1
      exact UInt8.le_antisymm h2 h1
    subst e
    have h2 := h.2.resolve_left (by simp)
    have g2 := g.2.resolve_left (by simp)
    rw [less_tri h2 g2]

theorem lt_of (s t : ByteArray) : ltS s t = Op.bytesLess s.data.toList t.data.toList := by unfold ltS; rw [Lib.toList_data, Lib.toList_data]
theorem lt_irrefl' (s : ByteArray) : ltS s s = false := by rw [lt_of]; exact less_irrefl _
theorem lt_trans' {s t u : ByteArray} (h : ltS s t = true) (g : ltS t u = true) : ltS s u = true := by
  rw [lt_of] at *; exact less_trans h g
theorem lt_tri' {s t : ByteArray} (h : ltS s t = false) (g : ltS t s = false) : s = t := by
  rw [lt_of] at *; exact Go.WideShapes.bytes_inj (less_tri h g)
theorem lt_asymm' {s t : ByteArray} (h : ltS s t = true) : ltS t s = false := by
  cases g : ltS t s with
  | false => rfl
  | true => have := lt_trans' h g; rw [lt_irrefl'] at this; cases this
theorem lt_other {s t : ByteArray} (h : ltS s t = false) (g : s ≠ t) : ltS t s = true := by
  cases g' : ltS t s with
  | true => rfl
  | false => exact absurd (lt_tri' h g') g
end Go.Proofs.YtflllkpnkcmegaaGreatDoor
