/- Rows of a key, a value and a mark: taints and tolerations alike. -/
import Derived.Test.YthlhaefaafjmlaaDoorGJoin
namespace Go.Proofs.YthlhaefaafjmlaaDoor
open Go.RowKit
set_option linter.unusedVariables false

abbrev NT := ByteArray × ByteArray × Bool
abbrev NL := List NT
abbrev NV (x y : ByteArray) (b : Bool) : Value := .agg #[.string x, .string y, .bool b]
theorem one_ssb (x y : ByteArray) (b : Bool) (u : Value) (h : u ∈ [Value.string x, Value.string y, Value.bool b]) : u.oneCell' = true := by
  have e : u = Value.string x ∨ u = Value.string y ∨ u = Value.bool b := by simpa using h
  rcases e with e | e | e <;> rw [e] <;> rfl
def TaLay : Lay NT := { m := 3, cs := fun x => [.string x.1, .string x.2.1, .bool x.2.2], fine := fun x => x.1.size ≤ maxLen ∧ x.2.1.size ≤ maxLen, len := fun _ => rfl, one := fun x => one_ssb x.1 x.2.1 x.2.2, pos := by decide }

theorem RowAt.tri {w : World} {b off len : Nat} {l : NL} {k : Nat} (h : RowAt TaLay w (some ⟨b, off, none⟩) len l) (hk : k < len) :
    ∃ (x y : ByteArray) (m : Bool), l[k]? = some (x, y, m) ∧ l.drop k = (x, y, m) :: l.drop (k + 1) ∧ b < w.heap.size ∧ x.size ≤ maxLen ∧ y.size ≤ maxLen ∧
      w.cell? ⟨b, off + k * 3, none⟩ = some (.string x) ∧ w.cell? ⟨b, off + k * 3 + 1, none⟩ = some (.string y) ∧ w.cell? ⟨b, off + k * 3 + 2, none⟩ = some (.bool m) := by
  obtain ⟨⟨x, y, m⟩, h1, h2, h3, h4, h5⟩ := h.cells hk
  exact ⟨x, y, m, h1, h2, h3, h4.1, h4.2, h5 0 _ rfl, h5 1 _ rfl, h5 2 _ rfl⟩

theorem lit_tri (w : World) (x y : ByteArray) (m : Bool) (T : TypeId) (hx : x.size ≤ maxLen) (hy : y.size ≤ maxLen) :
    Reads TaLay (w.alloc (.cells #[.string x, .string y, .bool m] T)) (.slice (some ⟨w.heap.size, 0, none⟩) 1 1) [(x, y, m)] := by
  have hh := w.alloc_heap_new (.cells #[.string x, .string y, .bool m] T)
  refine ⟨_, 1, rfl, Nat.le_refl _, by decide, rfl, (by decide : 1 ≤ maxLen), fun z hz => ?_, .inr ⟨w.heap.size, 0, rfl, by simp, fun i z j u hi hj => ?_⟩⟩
  · have : z = (x, y, m) := by simpa using hz
    subst this; exact ⟨hx, hy⟩
  · match i, hi with
    | 0, hi =>
      have hz : (x, y, m) = z := by simpa using hi
      subst hz
      match j, hj with
      | 0, hj => have : Value.string x = u := by simpa [TaLay] using hj
                 subst this; rw [Lib.cell_of_heap hh]; rfl
      | 1, hj => have : Value.string y = u := by simpa [TaLay] using hj
                 subst this; rw [Lib.cell_of_heap hh]; rfl
      | 2, hj => have : Value.bool m = u := by simpa [TaLay] using hj
                 subst this; rw [Lib.cell_of_heap hh]; rfl
      | j + 3, hj => simp [TaLay] at hj
    | i + 1, hi => simp at hi

theorem lit_tri_at (w : World) (B : Nat) (x y : ByteArray) (m : Bool) (T : TypeId) (hx : x.size ≤ maxLen) (hy : y.size ≤ maxLen) (hB : B = w.heap.size) :
    Reads TaLay (w.alloc (.cells #[.string x, .string y, .bool m] T)) (.slice (some ⟨B, 0, none⟩) 1 1) [(x, y, m)] := by
  subst hB; exact lit_tri w x y m T hx hy

/-- Whether a key and a value are there ahead. -/
def twinN (t z : NT) : Bool := eqS z.1 t.1 && eqS z.2.1 t.2.1
/-- What is wrong with taints. -/
def chkAF : NL → NL → Int
  | _, [] => 0
  | pre, x :: t => if (isName x.1 && isName x.2.1) = false then 3 else if pre.any (twinN x) = true then 6 else chkAF (pre ++ [x]) t
def chkA (l : NL) : Int := if 8 < l.length then 4 else chkAF [] l
theorem chkA_name {pre : NL} {x : NT} {t : NL} (n : (isName x.1 && isName x.2.1) = false) : chkAF pre (x :: t) = 3 := by rw [chkAF, if_pos n]
theorem chkA_twice {pre : NL} {x : NT} {t : NL} (n1 : isName x.1 = true) (n2 : isName x.2.1 = true) (b : pre.any (twinN x) = true) : chkAF pre (x :: t) = 6 := by
  rw [chkAF, if_neg (by rw [n1, n2]; decide), if_pos b]
theorem chkA_next {pre : NL} {x : NT} {t : NL} (n1 : isName x.1 = true) (n2 : isName x.2.1 = true) (b : pre.any (twinN x) = false) : chkAF pre (x :: t) = chkAF (pre ++ [x]) t := by
  rw [chkAF, if_neg (by rw [n1, n2]; decide), if_neg (by rw [b]; decide)]

/-- What is wrong with tolerations. -/
def isNo (s : ByteArray) : Bool := eqS s ByteArray.empty
def namedN (x : NT) : Bool := (isNo x.1 || isName x.1) && (if x.2.2 = true then isNo x.2.1 else isName x.2.1)
def chkO (l : NL) : Int := if 8 < l.length then 4 else if l.all namedN = true then 0 else 3

/-- What is borne. -/
def bearN (t z : NT) : Bool := (isNo z.1 || eqS z.1 t.1) && (z.2.2 || eqS z.2.1 t.2.1)
def bearsN (l : NL) (t : NT) : Bool := l.any (bearN t)
def worstN (l : NL) : NL → Option NT
  | [] => none
  | t :: r => if (t.2.2 && !bearsN l t) = true then some t else worstN l r
def softN (l : NL) : NL → Nat
  | [] => 0
  | t :: r => (if (!t.2.2 && !bearsN l t) = true then 1 else 0) + softN l r
theorem softN_le (l : NL) : ∀ t : NL, softN l t ≤ t.length
  | [] => Nat.le_refl _
  | t :: r => by
    have := softN_le l r
    rw [softN, List.length_cons]
    split <;> omega

theorem no_iff {s : ByteArray} : isNo s = (s.toList == ([] : List UInt8)) := by
  unfold isNo eqS; rw [show ByteArray.empty.toList = ([] : List UInt8) from by rw [Lib.toList_data]; rfl]

end Go.Proofs.YthlhaefaafjmlaaDoor
