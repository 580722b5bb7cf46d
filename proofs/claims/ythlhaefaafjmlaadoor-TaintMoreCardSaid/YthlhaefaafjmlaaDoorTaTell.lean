/- A taint, a toleration in words. -/
import Derived.Test.YthlhaefaafjmlaaDoorTaBase
namespace Go.Proofs.YthlhaefaafjmlaaDoor
open Go.RowKit
set_option linter.unusedVariables false

def taintB (x : NT) : ByteArray := if x.2.2 = true then x.1 ++ ⟨#[58]⟩ ++ x.2.1 ++ ⟨#[33]⟩ else x.1 ++ ⟨#[58]⟩ ++ x.2.1
def starB (x : ByteArray) : ByteArray := if isNo x = true then ⟨#[42]⟩ else x
def tolB (x : NT) : ByteArray := if x.2.2 = true then starB x.1 else starB x.1 ++ ⟨#[58]⟩ ++ x.2.1
theorem taintB_yes (x y : ByteArray) : taintB (x, y, true) = x ++ ⟨#[58]⟩ ++ y ++ ⟨#[33]⟩ := rfl
theorem taintB_no (x y : ByteArray) : taintB (x, y, false) = x ++ ⟨#[58]⟩ ++ y := rfl
theorem taintB_size {x : NT} (h1 : x.1.size ≤ 900000) (h2 : x.2.1.size ≤ 900000) : (taintB x).size ≤ 2000001 := by
  have e1 : (⟨#[58]⟩ : ByteArray).size = 1 := rfl
  have e2 : (⟨#[33]⟩ : ByteArray).size = 1 := rfl
  unfold taintB
  split
  · rw [ByteArray.size_append, ByteArray.size_append, ByteArray.size_append]; omega
  · rw [ByteArray.size_append, ByteArray.size_append]; omega
theorem starB_size {x : ByteArray} (h : x.size ≤ 900000) : (starB x).size ≤ 900000 := by
  unfold starB
  split
  · exact (by decide : (⟨#[42]⟩ : ByteArray).size ≤ 900000)
  · exact h
theorem tolB_size {x : NT} (h1 : x.1.size ≤ 900000) (h2 : x.2.1.size ≤ 900000) : (tolB x).size ≤ 2000001 := by
  have e1 : (⟨#[58]⟩ : ByteArray).size = 1 := rfl
  have := starB_size h1
  unfold tolB
  split
  · omega
  · rw [ByteArray.size_append, ByteArray.size_append]; omega

theorem taintText_any (x y : ByteArray) (m : Bool) (w : World) (hx : x.size ≤ 900000) (hy : y.size ≤ 900000) :
    Calls Tryd.prog 38 #[NV x y m] w fun e w' => e = .returned (.string (taintB (x, y, m))) ∧ Kept w w' := by
  cases m
  · go_enter Tryd.func38, Tryd.ntmps38
    go_wp2
    go_ret
    exact ⟨rfl, kept_alloc _ _⟩
  · go_enter Tryd.func38, Tryd.ntmps38
    go_wp2
    go_ret
    exact ⟨rfl, kept_alloc _ _⟩

theorem tolText_any (x y : ByteArray) (m : Bool) (w : World) (hx : x.size ≤ 900000) (hy : y.size ≤ 900000) :
    Calls Tryd.prog 41 #[NV x y m] w fun e w' => e = .returned (.string (tolB (x, y, m))) ∧ Kept w w' := by
  obtain ⟨q, hq⟩ : ∃ q, (x.toList == ([] : List UInt8)) = q := ⟨_, rfl⟩
  have HV := Lib.hid (show tolB (x, y, m) = if m = true then (if q = true then ⟨#[42]⟩ else x) else (if q = true then ⟨#[42]⟩ else x) ++ ⟨#[58]⟩ ++ y by
    unfold tolB starB; rw [no_iff, hq])
  cases m <;> cases q <;>
  (go_enter Tryd.func41, Tryd.ntmps41
   go_wp2
   go_ret
   exact ⟨ret_str HV.out.symm, kept_alloc _ _⟩)

end Go.Proofs.YthlhaefaafjmlaaDoor
