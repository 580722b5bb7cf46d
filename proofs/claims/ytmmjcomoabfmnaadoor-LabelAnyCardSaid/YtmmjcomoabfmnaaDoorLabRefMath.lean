/- Parts, cuts and signs of a text: plain words. -/
import Derived.Test.YtmmjcomoabfmnaaDoorGRefMath
import Derived.Test.YtmmjcomoabfmnaaDoorLabParsedP
import Derived.Test.YtmmjcomoabfmnaaDoorLabParsedT
namespace Go.Proofs.YtmmjcomoabfmnaaDoor
open Go.RowKit
set_option linter.unusedVariables false

theorem pair_parts (p : List UInt8) : pairBad p = false → partsAt 58 p = [(Lib.cut p [58]).1, (Lib.cut p [58]).2.1] := by
  intro h
  unfold pairBad at h
  rw [Bool.or_eq_false_iff] at h
  have h1 : (Lib.cut p [58]).2.2 = true := by simpa using h.1
  have h2 := h.2
  rw [index_byte_one] at h2
  have h3 : (58 : UInt8) ∉ (Lib.cut p [58]).2.1 := by simpa using h2
  have h4 := (parts_one 58 _).2 h3
  rw [cut_parts, if_pos h1]
  have h5 := cut_parts 58 (Lib.cut p [58]).2.1
  rw [cut_none h3] at h5
  rw [h5]; rfl
theorem pair_bad_len (p : List UInt8) : pairBad p = true → (partsAt 58 p).length ≠ 2 := by
  intro h
  unfold pairBad at h
  rw [index_byte_one] at h
  rw [cut_parts]
  by_cases h1 : (Lib.cut p [58]).2.2 = true
  · rw [if_pos h1]
    rw [h1] at h
    have h2 : (58 : UInt8) ∈ (Lib.cut p [58]).2.1 := by simpa using h
    intro e
    have : (partsAt 58 (Lib.cut p [58]).2.1).length = 1 := by simpa using e
    exact (parts_one 58 _).1 this h2
  · rw [if_neg h1]; simp

theorem chkS_long (l : PL) (h : 8 < l.length) : chkS l = 4 := by unfold chkS; rw [if_pos h]
theorem chkL_long (l : TL) (h : 8 < l.length) : chkL l = 4 := by unfold chkL; rw [if_pos h]

/-- Is it a sign? -/
def isSign (b : UInt8) : Bool := b == 58 || b == 33
def firstS : List UInt8 → Nat
  | [] => 0
  | b :: t => if isSign b = true then 0 else firstS t + 1
theorem signs_nil : signsL [] = 0 := rfl
theorem signs_cons (b : UInt8) (t : List UInt8) : signsL (b :: t) = (if isSign b = true then 1 else 0) + signsL t := by
  unfold signsL Lib.countByte isSign
  rw [List.count_cons, List.count_cons]
  by_cases h1 : b = 58
  · subst h1; simp; omega
  · by_cases h2 : b = 33
    · subst h2; simp; omega
    · simp [h1, h2]
theorem signs_zero : ∀ {x : List UInt8}, signsL x = 0 → (58 : UInt8) ∉ x ∧ (33 : UInt8) ∉ x
  | [], _ => by simp
  | b :: t, h => by
    rw [signs_cons] at h
    have hb : ¬ isSign b = true := by intro e; rw [if_pos e] at h; omega
    have ih := signs_zero (x := t) (by omega)
    unfold isSign at hb
    simp only [Bool.or_eq_true, beq_iff_eq, not_or] at hb
    exact ⟨by simp [ih.1]; exact fun e => hb.1 e.symm, by simp [ih.2]; exact fun e => hb.2 e.symm⟩
theorem signs_one : ∀ {p : List UInt8}, signsL p = 1 → ∃ x c y, p = x ++ c :: y ∧ isSign c = true ∧ signsL x = 0 ∧ signsL y = 0 ∧ firstS p = x.length
  | [], h => by cases h
  | b :: t, h => by
    rw [signs_cons] at h
    by_cases hb : isSign b = true
    · rw [if_pos hb] at h
      exact ⟨[], b, t, rfl, hb, rfl, by omega, by rw [firstS, if_pos hb]; rfl⟩
    · rw [if_neg hb] at h
      obtain ⟨x, c, y, rfl, hc, hx, hy, hf⟩ := signs_one (p := t) (by omega)
      exact ⟨b :: x, c, y, rfl, hc, by rw [signs_cons, if_neg hb, hx], hy, by rw [firstS, if_neg hb, hf]; rfl⟩
theorem first_lt : ∀ {p : List UInt8}, 0 < signsL p → firstS p < p.length
  | [], h => absurd h (by decide)
  | b :: t, h => by
    rw [signs_cons] at h
    rw [firstS]
    split
    · simp
    · rename_i hb; rw [if_neg hb] at h
      have := first_lt (p := t) (by omega)
      simp; omega

/-- A good part with one sign. -/
theorem term_one {p : List UInt8} (h : signsL p = 1) (hp : Lib.hasPrefix p [45] = false) :
    termL p = (if p[firstS p]? = some 58 then 1 else 2, bytes (p.take (firstS p)), bytes (p.drop (firstS p + 1))) := by
  obtain ⟨x, c, y, rfl, hc, hx, hy, hf⟩ := signs_one h
  have z1 := signs_zero hx
  have z2 := signs_zero hy
  unfold termL
  rw [if_neg (by rw [hp]; decide), if_neg (by omega), hf]
  have e1 : (x ++ c :: y)[x.length]? = some c := by simp
  have e2 : (x ++ c :: y).take x.length = x := by simp
  have e3 : (x ++ c :: y).drop (x.length + 1) = y := by
    rw [show x.length + 1 = x.length + 1 from rfl, List.drop_append, List.drop_of_length_le (by omega)]
    simp
  rw [e1, e2, e3]
  unfold isSign at hc
  simp only [Bool.or_eq_true, beq_iff_eq] at hc
  rcases hc with rfl | rfl
  · rw [cut_mid y z1.1, if_pos rfl, if_pos rfl]
  · rw [cut_none (c := 58) (by simp [z1.1, z2.1]), cut_mid y z1.2]
    simp

end Go.Proofs.YtmmjcomoabfmnaaDoor
