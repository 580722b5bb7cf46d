/- Parts, cuts and signs of a text: plain words. -/
import Derived.Test.YtgaofilkfaendaaDoorLabRefSplit
import Derived.Test.YtgaofilkfaendaaDoorLabParsedP
import Derived.Test.YtgaofilkfaendaaDoorLabParsedT
namespace Go.Proofs.YtgaofilkfaendaaDoor
open Go.RowKit
set_option linter.unusedVariables false

theorem index_one (c b : UInt8) (t : List UInt8) : Lib.index (b :: t) [c] = if b = c then 0 else if Lib.index t [c] == -1 then -1 else Lib.index t [c] + 1 := by
  rw [Lib.index]
  by_cases h : b = c
  · subst h; rw [if_pos rfl, if_pos (by simp [List.isPrefixOf])]
  · rw [if_neg h, if_neg (by simp [List.isPrefixOf]; exact fun e => h e.symm)]
theorem cut_nil (c : UInt8) : Lib.cut [] [c] = ([], [], false) := by unfold Lib.cut; simp [Lib.index]
theorem cut_cons (c b : UInt8) (t : List UInt8) : Lib.cut (b :: t) [c] = if b = c then ([], t, true) else (b :: (Lib.cut t [c]).1, (Lib.cut t [c]).2.1, (Lib.cut t [c]).2.2) := by
  have hge := Lib.index_ge t [c]
  unfold Lib.cut
  rw [index_one]
  by_cases h : b = c
  · subst h; simp
  · rw [if_neg h, if_neg h]
    by_cases h1 : Lib.index t [c] = -1
    · rw [h1]; simp
    · have h2 : 0 ≤ Lib.index t [c] := by omega
      obtain ⟨i, hi⟩ := Int.eq_ofNat_of_zero_le h2
      rw [hi]
      have e1 : ((i : Int) == -1) = false := beq_eq_false_iff_ne.2 (by omega)
      rw [e1]
      have e2 : (0 : Int) ≤ (i : Int) + 1 := by omega
      have e3 : ((i : Int) + 1).toNat = i + 1 := by omega
      simp [e2, e3]
theorem cut_none {c : UInt8} : ∀ {p : List UInt8}, c ∉ p → Lib.cut p [c] = (p, [], false)
  | [], _ => cut_nil c
  | b :: t, h => by
    rw [cut_cons, if_neg (by intro e; exact h (by simp [e])), cut_none (by intro e; exact h (by simp [e]))]
theorem cut_mid {c : UInt8} : ∀ {x : List UInt8} (y : List UInt8), c ∉ x → Lib.cut (x ++ c :: y) [c] = (x, y, true)
  | [], y, _ => by rw [List.nil_append, cut_cons, if_pos rfl]
  | b :: t, y, h => by
    rw [List.cons_append, cut_cons, if_neg (by intro e; exact h (by simp [e])), cut_mid y (by intro e; exact h (by simp [e]))]
theorem cut_parts (c : UInt8) : ∀ p : List UInt8, partsAt c p = if (Lib.cut p [c]).2.2 = true then (Lib.cut p [c]).1 :: partsAt c (Lib.cut p [c]).2.1 else [p]
  | [] => by rw [cut_nil]; rfl
  | b :: t => by
    rw [partsAt, cut_cons]
    by_cases h : b = c
    · rw [if_pos h, if_pos h]; rfl
    · rw [if_neg h, if_neg h, cut_parts c t]
      dsimp only
      by_cases h1 : (Lib.cut t [c]).2.2 = true
      · rw [if_pos h1, if_pos h1]
      · rw [if_neg h1, if_neg h1]
theorem index_byte_one (c : UInt8) : ∀ q : List UInt8, decide (0 ≤ Lib.indexByte q c) = decide (c ∈ q)
  | [] => by simp [Lib.indexByte]
  | b :: t => by
    have ih := index_byte_one c t
    have hge := Lib.indexByte_ge t c
    rw [Lib.indexByte]
    by_cases h : b = c
    · subst h; simp
    · have e1 : (b == c) = false := by simpa using h
      rw [e1]
      have hm : decide (c ∈ b :: t) = decide (c ∈ t) := by
        simp [List.mem_cons]; intro e; exact absurd e.symm h
      rw [hm, ← ih]
      by_cases h1 : Lib.indexByte t c = -1
      · rw [h1]; simp
      · have e2 : (Lib.indexByte t c == -1) = false := by simpa using h1
        rw [e2]
        have : 0 ≤ Lib.indexByte t c := by omega
        simp [this]; omega
theorem parts_one (c : UInt8) : ∀ q : List UInt8, (partsAt c q).length = 1 ↔ c ∉ q
  | [] => by simp [partsAt]
  | b :: t => by
    have ih := parts_one c t
    rw [partsAt]
    by_cases h : b = c
    · rw [if_pos h]
      have := partsAt_ne c t
      constructor
      · intro e; exfalso
        have : (partsAt c t).length = 0 := by simpa using e
        exact partsAt_ne c t (List.eq_nil_of_length_eq_zero this)
      · intro e; exact absurd (by simp [h]) e
    · rw [if_neg h]
      cases hp : partsAt c t with
      | nil => exact absurd hp (partsAt_ne c t)
      | cons p ps =>
        rw [hp] at ih
        have e : ((b :: p) :: ps).length = (p :: ps).length := rfl
        dsimp only
        rw [e, ih]
        simp [List.mem_cons, Ne.symm h]

theorem pair_parts (p : List UInt8) : pairBad p = false → partsAt 58 p = [(Lib.cut p [58]).1, (Lib.cut p [58]).2.1] := by
  intro h
  unfold pairBad at h
  rw [Bool.or_eq_false_iff] at h
  have h1 : (Lib.cut p [58]).2.2 = true := by simpa using h.1
  have h2 := h.2
  rw [index_byte_one] at h2
  have h3 : (58 : UInt8) ∉ (Lib.cut p [58]).2.1 := by simpa using h2
  have h4 := (parts_one 58 _).2 h3
  rw [cut_parts, if_pos h1]
  have h5 := cut_parts 58 (Lib.cut p [58]).2.1
  rw [cut_none h3] at h5
  rw [h5]; rfl
theorem pair_bad_len (p : List UInt8) : pairBad p = true → (partsAt 58 p).length ≠ 2 := by
  intro h
  unfold pairBad at h
  rw [index_byte_one] at h
  rw [cut_parts]
  by_cases h1 : (Lib.cut p [58]).2.2 = true
  · rw [if_pos h1]
    rw [h1] at h
    have h2 : (58 : UInt8) ∈ (Lib.cut p [58]).2.1 := by simpa using h
    intro e
    have : (partsAt 58 (Lib.cut p [58]).2.1).length = 1 := by simpa using e
    exact (parts_one 58 _).1 this h2
  · rw [if_neg h1]; simp

/-- A row of all parts instead of nine. -/
def fullG {α : Type} (bad : List UInt8 → Bool) (f : List UInt8 → α) (chk : List α → Int) (s : List UInt8) : Int × List α :=
  if s = [45] then (0, [])
  else if (partsOf s).any bad = true then (2, [])
  else if chk ((partsOf s).map f) ≠ 0 then (chk ((partsOf s).map f), [])
  else (0, (partsOf s).map f)
theorem full_parsed {α : Type} {bad : List UInt8 → Bool} {f : List UInt8 → α} {chk : List α → Int} (h : ∀ l, 8 < l.length → chk l = 4) (s : List UInt8) : fullG bad f chk s = parsedG bad f chk s := by
  unfold fullG parsedG
  by_cases h8 : ((partsOf s).map f).length ≤ 9
  · rw [List.take_of_length_le h8]
  · have h1 := h ((partsOf s).map f) (by omega)
    have h2 := h (((partsOf s).map f).take 9) (by rw [List.length_take]; omega)
    rw [h1, h2, if_pos (show (4 : Int) ≠ 0 by decide), if_pos (show (4 : Int) ≠ 0 by decide)]
theorem chkS_long (l : PL) (h : 8 < l.length) : chkS l = 4 := by unfold chkS; rw [if_pos h]
theorem chkL_long (l : TL) (h : 8 < l.length) : chkL l = 4 := by unfold chkL; rw [if_pos h]

/-- Is it a sign? -/
def isSign (b : UInt8) : Bool := b == 58 || b == 33
def firstS : List UInt8 → Nat
  | [] => 0
  | b :: t => if isSign b = true then 0 else firstS t + 1
theorem signs_nil : signsL [] = 0 := rfl
theorem signs_cons (b : UInt8) (t : List UInt8) : signsL (b :: t) = (if isSign b = true then 1 else 0) + signsL t := by
  unfold signsL Lib.countByte isSign
  rw [List.count_cons, List.count_cons]
  by_cases h1 : b = 58
  · subst h1; simp; omega
  · by_cases h2 : b = 33
    · subst h2; simp; omega
    · simp [h1, h2]
theorem signs_zero : ∀ {x : List UInt8}, signsL x = 0 → (58 : UInt8) ∉ x ∧ (33 : UInt8) ∉ x
  | [], _ => by simp
  | b :: t, h => by
    rw [signs_cons] at h
    have hb : ¬ isSign b = true := by intro e; rw [if_pos e] at h; omega
    have ih := signs_zero (x := t) (by omega)
    unfold isSign at hb
    simp only [Bool.or_eq_true, beq_iff_eq, not_or] at hb
    exact ⟨by simp [ih.1]; exact fun e => hb.1 e.symm, by simp [ih.2]; exact fun e => hb.2 e.symm⟩
theorem signs_one : ∀ {p : List UInt8}, signsL p = 1 → ∃ x c y, p = x ++ c :: y ∧ isSign c = true ∧ signsL x = 0 ∧ signsL y = 0 ∧ firstS p = x.length
  | [], h => by cases h
  | b :: t, h => by
    rw [signs_cons] at h
    by_cases hb : isSign b = true
    · rw [if_pos hb] at h
      exact ⟨[], b, t, rfl, hb, rfl, by omega, by rw [firstS, if_pos hb]; rfl⟩
    · rw [if_neg hb] at h
      obtain ⟨x, c, y, rfl, hc, hx, hy, hf⟩ := signs_one (p := t) (by omega)
      exact ⟨b :: x, c, y, rfl, hc, by rw [signs_cons, if_neg hb, hx], hy, by rw [firstS, if_neg hb, hf]; rfl⟩
theorem first_lt : ∀ {p : List UInt8}, 0 < signsL p → firstS p < p.length
  | [], h => absurd h (by decide)
  | b :: t, h => by
    rw [signs_cons] at h
    rw [firstS]
    split
    · simp
    · rename_i hb; rw [if_neg hb] at h
      have := first_lt (p := t) (by omega)
      simp; omega

/-- A good part with one sign. -/
theorem term_one {p : List UInt8} (h : signsL p = 1) (hp : Lib.hasPrefix p [45] = false) :
    termL p = (if p[firstS p]? = some 58 then 1 else 2, bytes (p.take (firstS p)), bytes (p.drop (firstS p + 1))) := by
  obtain ⟨x, c, y, rfl, hc, hx, hy, hf⟩ := signs_one h
  have z1 := signs_zero hx
  have z2 := signs_zero hy
  unfold termL
  rw [if_neg (by rw [hp]; decide), if_neg (by omega), hf]
  have e1 : (x ++ c :: y)[x.length]? = some c := by simp
  have e2 : (x ++ c :: y).take x.length = x := by simp
  have e3 : (x ++ c :: y).drop (x.length + 1) = y := by
    rw [show x.length + 1 = x.length + 1 from rfl, List.drop_append, List.drop_of_length_le (by omega)]
    simp
  rw [e1, e2, e3]
  unfold isSign at hc
  simp only [Bool.or_eq_true, beq_iff_eq] at hc
  rcases hc with rfl | rfl
  · rw [cut_mid y z1.1, if_pos rfl, if_pos rfl]
  · rw [cut_none (c := 58) (by simp [z1.1, z2.1]), cut_mid y z1.2]
    simp

end Go.Proofs.YtgaofilkfaendaaDoor
