/- A text cut, its parts. -/
import Derived.Test.YtmmjcomoabfmnaaDoorLabRefSplit
import Derived.Test.YtmmjcomoabfmnaaDoorLabParsedB
namespace Go.Proofs.YtmmjcomoabfmnaaDoor
open Go.RowKit
set_option linter.unusedVariables false

theorem index_one (c b : UInt8) (t : List UInt8) : Lib.index (b :: t) [c] = if b = c then 0 else if Lib.index t [c] == -1 then -1 else Lib.index t [c] + 1 := by
  rw [Lib.index]
  by_cases h : b = c
  · subst h; rw [if_pos rfl, if_pos (by simp [List.isPrefixOf])]
  · rw [if_neg h, if_neg (by simp [List.isPrefixOf]; exact fun e => h e.symm)]
theorem cut_nil (c : UInt8) : Lib.cut [] [c] = ([], [], false) := by unfold Lib.cut; simp [Lib.index]
theorem cut_cons (c b : UInt8) (t : List UInt8) : Lib.cut (b :: t) [c] = if b = c then ([], t, true) else (b :: (Lib.cut t [c]).1, (Lib.cut t [c]).2.1, (Lib.cut t [c]).2.2) := by
  have hge := Lib.index_ge t [c]
  unfold Lib.cut
  rw [index_one]
  by_cases h : b = c
  · subst h; simp
  · rw [if_neg h, if_neg h]
    by_cases h1 : Lib.index t [c] = -1
    · rw [h1]; simp
    · have h2 : 0 ≤ Lib.index t [c] := by omega
      obtain ⟨i, hi⟩ := Int.eq_ofNat_of_zero_le h2
      rw [hi]
      have e1 : ((i : Int) == -1) = false := beq_eq_false_iff_ne.2 (by omega)
      rw [e1]
      have e2 : (0 : Int) ≤ (i : Int) + 1 := by omega
      have e3 : ((i : Int) + 1).toNat = i + 1 := by omega
      simp [e2, e3]
theorem cut_none {c : UInt8} : ∀ {p : List UInt8}, c ∉ p → Lib.cut p [c] = (p, [], false)
  | [], _ => cut_nil c
  | b :: t, h => by
    rw [cut_cons, if_neg (by intro e; exact h (by simp [e])), cut_none (by intro e; exact h (by simp [e]))]
theorem cut_mid {c : UInt8} : ∀ {x : List UInt8} (y : List UInt8), c ∉ x → Lib.cut (x ++ c :: y) [c] = (x, y, true)
  | [], y, _ => by rw [List.nil_append, cut_cons, if_pos rfl]
  | b :: t, y, h => by
    rw [List.cons_append, cut_cons, if_neg (by intro e; exact h (by simp [e])), cut_mid y (by intro e; exact h (by simp [e]))]
theorem cut_parts (c : UInt8) : ∀ p : List UInt8, partsAt c p = if (Lib.cut p [c]).2.2 = true then (Lib.cut p [c]).1 :: partsAt c (Lib.cut p [c]).2.1 else [p]
  | [] => by rw [cut_nil]; rfl
  | b :: t => by
    rw [partsAt, cut_cons]
    by_cases h : b = c
    · rw [if_pos h, if_pos h]; rfl
    · rw [if_neg h, if_neg h, cut_parts c t]
      dsimp only
      by_cases h1 : (Lib.cut t [c]).2.2 = true
      · rw [if_pos h1, if_pos h1]
      · rw [if_neg h1, if_neg h1]
theorem index_byte_one (c : UInt8) : ∀ q : List UInt8, decide (0 ≤ Lib.indexByte q c) = decide (c ∈ q)
  | [] => by simp [Lib.indexByte]
  | b :: t => by
    have ih := index_byte_one c t
    have hge := Lib.indexByte_ge t c
    rw [Lib.indexByte]
    by_cases h : b = c
    · subst h; simp
    · have e1 : (b == c) = false := by simpa using h
      rw [e1]
      have hm : decide (c ∈ b :: t) = decide (c ∈ t) := by
        simp [List.mem_cons]; intro e; exact absurd e.symm h
      rw [hm, ← ih]
      by_cases h1 : Lib.indexByte t c = -1
      · rw [h1]; simp
      · have e2 : (Lib.indexByte t c == -1) = false := by simpa using h1
        rw [e2]
        have : 0 ≤ Lib.indexByte t c := by omega
        simp [this]; omega
theorem parts_one (c : UInt8) : ∀ q : List UInt8, (partsAt c q).length = 1 ↔ c ∉ q
  | [] => by simp [partsAt]
  | b :: t => by
    have ih := parts_one c t
    rw [partsAt]
    by_cases h : b = c
    · rw [if_pos h]
      have := partsAt_ne c t
      constructor
      · intro e; exfalso
        have : (partsAt c t).length = 0 := by simpa using e
        exact partsAt_ne c t (List.eq_nil_of_length_eq_zero this)
      · intro e; exact absurd (by simp [h]) e
    · rw [if_neg h]
      cases hp : partsAt c t with
      | nil => exact absurd hp (partsAt_ne c t)
      | cons p ps =>
        rw [hp] at ih
        have e : ((b :: p) :: ps).length = (p :: ps).length := rfl
        dsimp only
        rw [e, ih]
        simp [List.mem_cons, Ne.symm h]
/-- A row of all parts instead of nine. -/
def fullG {α : Type} (bad : List UInt8 → Bool) (f : List UInt8 → α) (chk : List α → Int) (s : List UInt8) : Int × List α :=
  if s = [45] then (0, [])
  else if (partsOf s).any bad = true then (2, [])
  else if chk ((partsOf s).map f) ≠ 0 then (chk ((partsOf s).map f), [])
  else (0, (partsOf s).map f)
theorem full_parsed {α : Type} {bad : List UInt8 → Bool} {f : List UInt8 → α} {chk : List α → Int} (h : ∀ l, 8 < l.length → chk l = 4) (s : List UInt8) : fullG bad f chk s = parsedG bad f chk s := by
  unfold fullG parsedG
  by_cases h8 : ((partsOf s).map f).length ≤ 9
  · rw [List.take_of_length_le h8]
  · have h1 := h ((partsOf s).map f) (by omega)
    have h2 := h (((partsOf s).map f).take 9) (by rw [List.length_take]; omega)
    rw [h1, h2, if_pos (show (4 : Int) ≠ 0 by decide), if_pos (show (4 : Int) ≠ 0 by decide)]
theorem bytes_from (p : List UInt8) (a : Nat) : (bytes p).extract a p.length = bytes (p.drop a) := by
  apply Go.WideShapes.bytes_inj
  simp [bytes, ByteArray.data_extract, List.take_of_length_le]
theorem bytes_upto (p : List UInt8) (a : Nat) : (bytes p).extract 0 a = bytes (p.take a) := by
  apply Go.WideShapes.bytes_inj
  simp [bytes, ByteArray.data_extract]
theorem bytes_at (p : List UInt8) (a : Nat) (h : a < p.length) (h' : a < (bytes p).size) : (bytes p)[a] = p[a] := by
  simp [bytes, ByteArray.getElem_eq_getElem_data]
  rfl
theorem byte_yes {b c : UInt8} (h : b = c) : ((b.toNat : Int) == (c.toNat : Int)) = true := by rw [h]; exact beq_self_eq_true _
theorem byte_no {b c : UInt8} (h : b ≠ c) : ((b.toNat : Int) == (c.toNat : Int)) = false := by
  have : (b.toNat : Int) ≠ (c.toNat : Int) := fun e => h (UInt8.toNat.inj (by omega))
  simpa using this

end Go.Proofs.YtmmjcomoabfmnaaDoor
