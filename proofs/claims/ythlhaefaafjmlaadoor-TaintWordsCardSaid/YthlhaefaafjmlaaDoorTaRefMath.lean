/- A taint's, a toleration's part: how it is parted. -/
import Derived.Test.YthlhaefaafjmlaaDoorGRefMath
import Derived.Test.YthlhaefaafjmlaaDoorGTold
import Derived.Test.YthlhaefaafjmlaaDoorTaForm
namespace Go.Proofs.YthlhaefaafjmlaaDoor
open Go.RowKit
set_option linter.unusedVariables false

theorem count_cons (c b : UInt8) (t : List UInt8) : Lib.countByte (b :: t) c = Lib.countByte t c + (if b = c then 1 else 0) := by
  unfold Lib.countByte
  rw [List.count_cons]
  by_cases h : b = c
  · simp [h]
  · simp [h]
theorem parts_count (c : UInt8) : ∀ p : List UInt8, (partsAt c p).length = Lib.countByte p c + 1
  | [] => rfl
  | b :: t => by
    have ih := parts_count c t
    rw [count_cons, partsAt]
    by_cases h : b = c
    · rw [if_pos h, if_pos h, List.length_cons, ih]
    · rw [if_neg h, if_neg h, Nat.add_zero, ← ih]
      cases hp : partsAt c t with
      | nil => exact absurd hp (partsAt_ne c t)
      | cons q qs => rfl
theorem count_zero {c : UInt8} {p : List UInt8} (h : Lib.countByte p c = 0) : c ∉ p := by
  have := (parts_one c p).1 (by rw [parts_count, h])
  exact this
theorem parts_lone {c : UInt8} {p : List UInt8} (h : Lib.countByte p c = 0) : Lib.cut p [c] = (p, [], false) ∧ partsAt c p = [p] := by
  have hn := cut_none (count_zero h)
  refine ⟨hn, ?_⟩
  rw [cut_parts, hn]; rfl
theorem parts_two {c : UInt8} {p : List UInt8} (h : Lib.countByte p c = 1) : (Lib.cut p [c]).2.2 = true ∧ partsAt c p = [(Lib.cut p [c]).1, (Lib.cut p [c]).2.1] := by
  have hl := parts_count c p
  rw [h, cut_parts] at hl
  by_cases hf : (Lib.cut p [c]).2.2 = true
  · refine ⟨hf, ?_⟩
    rw [if_pos hf, List.length_cons] at hl
    have h1 : (partsAt c (Lib.cut p [c]).2.1).length = 1 := by omega
    have hn := (parts_one c _).1 h1
    rw [cut_parts, if_pos hf, cut_parts c (Lib.cut p [c]).2.1, cut_none hn]; rfl
  · rw [if_neg hf] at hl; simp at hl
theorem cut_notin (c : UInt8) : ∀ p : List UInt8, (Lib.cut p [c]).2.2 = true → c ∉ (Lib.cut p [c]).1
  | [], h => by rw [cut_nil] at h; cases h
  | b :: t, h => by
    rw [cut_cons] at h ⊢
    by_cases hb : b = c
    · rw [if_pos hb]; simp
    · rw [if_neg hb] at h ⊢
      have ih := cut_notin c t h
      show c ∉ b :: (Lib.cut t [c]).1
      simp only [List.mem_cons, not_or]
      exact ⟨fun e => hb e.symm, ih⟩

theorem suffix_snoc (u : List UInt8) (z c : UInt8) : Lib.hasSuffix (u ++ [z]) [c] = (z == c) := by
  unfold Lib.hasSuffix List.isSuffixOf
  simp only [List.isPrefixOf, List.reverse_append, List.reverse_cons, List.reverse_nil, List.nil_append, List.cons_append, Bool.and_true]
  rw [Bool.eq_iff_iff, beq_iff_eq, beq_iff_eq]; exact eq_comm
theorem trim_yes (u : List UInt8) (c : UInt8) : Lib.trimSuffix (u ++ [c]) [c] = u := by
  unfold Lib.trimSuffix
  rw [suffix_snoc, if_pos (by simp)]
  simp
theorem trim_no (u : List UInt8) {z c : UInt8} (h : z ≠ c) : Lib.trimSuffix (u ++ [z]) [c] = u ++ [z] := by
  unfold Lib.trimSuffix
  rw [suffix_snoc, if_neg (by simpa using h)]
theorem suffix_nil (c : UInt8) : Lib.hasSuffix [] [c] = false := rfl
theorem trim_nil (c : UInt8) : Lib.trimSuffix [] [c] = [] := rfl

/-- A taint's part, parted: what is behind the sign is cut. -/
theorem readA_nil {p : List UInt8} (h : Lib.countByte p 58 = 1) (hv : (Lib.cut p [58]).2.1 = []) : readA p = (bytes (Lib.cut p [58]).1, bytes [], false) := by
  have hf := (parts_two h).1
  have hb := cut_back 58 p hf
  have hn := cut_notin 58 p hf
  obtain ⟨k, hk⟩ : ∃ k, (Lib.cut p [58]).1 = k := ⟨_, rfl⟩
  rw [hv, hk] at hb
  rw [hk] at hn ⊢
  have e1 : Lib.hasSuffix p [33] = false := by rw [← hb, suffix_snoc]; rfl
  have e2 : Lib.trimSuffix p [33] = p := by rw [← hb, trim_no _ (by decide)]
  unfold readA
  rw [e1, e2, ← hb, cut_mid [] hn]
theorem readA_mark {p u : List UInt8} (h : Lib.countByte p 58 = 1) (hv : (Lib.cut p [58]).2.1 = u ++ [33]) : readA p = (bytes (Lib.cut p [58]).1, bytes u, true) := by
  have hf := (parts_two h).1
  have hb := cut_back 58 p hf
  have hn := cut_notin 58 p hf
  obtain ⟨k, hk⟩ : ∃ k, (Lib.cut p [58]).1 = k := ⟨_, rfl⟩
  rw [hv, hk] at hb
  rw [hk] at hn ⊢
  have hb' : (k ++ 58 :: u) ++ [33] = p := by rw [← hb]; simp
  have e1 : Lib.hasSuffix p [33] = true := by rw [← hb', suffix_snoc]; rfl
  have e2 : Lib.trimSuffix p [33] = k ++ 58 :: u := by rw [← hb', trim_yes]
  unfold readA
  rw [e1, e2, cut_mid u hn]
theorem readA_plain {p u : List UInt8} {z : UInt8} (h : Lib.countByte p 58 = 1) (hv : (Lib.cut p [58]).2.1 = u ++ [z]) (hz : z ≠ 33) : readA p = (bytes (Lib.cut p [58]).1, bytes (u ++ [z]), false) := by
  have hf := (parts_two h).1
  have hb := cut_back 58 p hf
  have hn := cut_notin 58 p hf
  obtain ⟨k, hk⟩ : ∃ k, (Lib.cut p [58]).1 = k := ⟨_, rfl⟩
  rw [hv, hk] at hb
  rw [hk] at hn ⊢
  have hb' : (k ++ 58 :: u) ++ [z] = p := by rw [← hb]; simp
  have e1 : Lib.hasSuffix p [33] = false := by rw [← hb', suffix_snoc]; simpa using hz
  have e2 : Lib.trimSuffix p [33] = p := by rw [← hb', trim_no _ hz]
  unfold readA
  rw [e1, e2, ← hb, cut_mid (u ++ [z]) hn]

theorem chkA_long (l : NL) (h : 8 < l.length) : chkA l = 4 := by unfold chkA; rw [if_pos h]
theorem chkO_long (l : NL) (h : 8 < l.length) : chkO l = 4 := by unfold chkO; rw [if_pos h]

theorem prefix_head (b c : UInt8) (t : List UInt8) : Lib.hasPrefix (b :: t) [c] = (b == c) := by
  unfold Lib.hasPrefix
  simp only [List.isPrefixOf, List.reverse_append, List.reverse_cons, List.reverse_nil, List.nil_append, List.cons_append, Bool.and_true]
  rw [Bool.eq_iff_iff, beq_iff_eq, beq_iff_eq]; exact eq_comm
/-- The first of a toleration's parts is empty just where the sign stands ahead, or nothing does. -/
theorem first_empty (p : List UInt8) : (Lib.cut p [58]).1 = [] ↔ (p = [] ∨ Lib.hasPrefix p [58] = true) := by
  cases p with
  | nil => simp [cut_nil]
  | cons b t =>
    rw [cut_cons, prefix_head]
    by_cases h : b = 58
    · simp [h]
    · simp [h]

end Go.Proofs.YthlhaefaafjmlaaDoor
