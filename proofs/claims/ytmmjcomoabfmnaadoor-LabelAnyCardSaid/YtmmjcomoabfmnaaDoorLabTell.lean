/- A pair, a term in words. -/
import Derived.Test.YtmmjcomoabfmnaaDoorLabSel
import Derived.Test.YtmmjcomoabfmnaaDoorShelf
namespace Go.Proofs.YtmmjcomoabfmnaaDoor
open Go.RowKit
set_option linter.unusedVariables false

/-- Short enough to be told. -/
def Mid (s : ByteArray) : Prop := s.size ≤ 1000000

def pairB (x : ByteArray × ByteArray) : ByteArray := x.1 ++ ⟨#[58]⟩ ++ x.2
def termB (t : Int × ByteArray × ByteArray) : ByteArray :=
  if t.1 = 1 then t.2.1 ++ ⟨#[58]⟩ ++ t.2.2 else if t.1 = 2 then t.2.1 ++ ⟨#[33]⟩ ++ t.2.2 else if t.1 = 4 then ⟨#[45]⟩ ++ t.2.1 else t.2.1

theorem pairText_any (x y : ByteArray) (w : World) (hx : x.size ≤ 1000000) (hy : y.size ≤ 1000000) :
    Calls Tryd.prog 36 #[.agg #[.string x, .string y]] w fun e w' => e = .returned (.string (pairB (x, y))) ∧ Kept w w' := by
  go_enter Tryd.func36, Tryd.ntmps36
  go_wp2
  go_ret
  exact ⟨rfl, kept_alloc _ _⟩

theorem termText_any (o : Int) (x y : ByteArray) (w : World) (hx : x.size ≤ 1000000) (hy : y.size ≤ 1000000) :
    Calls Tryd.prog 39 #[TV o x y] w fun e w' => e = .returned (.string (termB (o, x, y))) ∧ Kept w w' := by
  by_cases h1 : o = 1
  · subst h1
    go_enter Tryd.func39, Tryd.ntmps39
    go_wp2
    go_ret
    exact ⟨rfl, kept_alloc _ _⟩
  · by_cases h2 : o = 2
    · subst h2
      go_enter Tryd.func39, Tryd.ntmps39
      go_wp2
      go_ret
      exact ⟨rfl, kept_alloc _ _⟩
    · by_cases h4 : o = 4
      · subst h4
        go_enter Tryd.func39, Tryd.ntmps39
        go_wp2
        go_ret
        exact ⟨rfl, kept_alloc _ _⟩
      · have HV := Lib.hid (show termB (o, x, y) = x by unfold termB; rw [if_neg h1, if_neg h2, if_neg h4])
        have e1 : (o == 1) = false := by simpa using h1
        have e2 : (o == 2) = false := by simpa using h2
        have e4 : (o == 4) = false := by simpa using h4
        clear h1 h2 h4
        go_enter Tryd.func39, Tryd.ntmps39
        go_wp2
        go_ret
        exact ⟨ret_str HV.out.symm, kept_alloc _ _⟩

end Go.Proofs.YtmmjcomoabfmnaaDoor
