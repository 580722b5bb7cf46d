/- What each call of package qty answers, said of whole numbers, and what each call of the reference does. -/
import Derived.Test.YtocidfnfoaapcaaQtyDiv
namespace Go.Proofs.Ytocidfnfoaapcaa
open Go.RowKit
set_option linter.unusedVariables false

/-- Nothing that was there has changed. -/
def Kept (w w' : World) : Prop := Below w.heap.size w w'
theorem Kept.refl (w : World) : Kept w w := Below.refl _ _
theorem Kept.trans {a b c : World} (h : Kept a b) (k : Kept b c) : Kept a c := Below.trans h (Below.mono k h.size)
theorem Kept.drewN (w : World) (n : Nat) : Kept w (w.drewN n) := below_drewN (Below.refl _ _) n

/-- The answer: a number and an error; nothing made, nothing drawn. -/
def Pure2 (v x : Int) (w : World) (e : Ending) (w' : World) : Prop := e = .returned (.tuple #[.int .i64 v, .int .i64 x]) ∧ w = w'
/-- The answer: a number and an error; the order of some reads was drawn. -/
def Ans (v x : Int) (w : World) (e : Ending) (w' : World) : Prop := e = .returned (.tuple #[.int .i64 v, .int .i64 x]) ∧ Kept w w'
def Ans3 (k : IntKind) (v r x : Int) (w : World) (e : Ending) (w' : World) : Prop := e = .returned (.tuple #[.int .i64 v, .int k r, .int .i64 x]) ∧ Kept w w'

theorem Pure2.ans {v x : Int} {w : World} {e : Ending} {w' : World} (h : Pure2 v x w e w') : Ans v x w e w' := by
  obtain ⟨rfl, rfl⟩ := h
  exact ⟨rfl, Kept.refl _⟩

theorem add_arg (a b : Int) (w : World) (h : a < 0 ∨ b < 0) : Calls Try.prog 10 #[.int .i64 a, .int .i64 b] w (Pure2 0 1 w) := by
  by_cases h1 : a < 0
  · go_enter Try.func10, Try.ntmps10
    go_wp2
    go_ret2
    exact ⟨rfl, rfl⟩
  · have h2 : b < 0 := by omega
    go_enter Try.func10, Try.ntmps10
    go_wp2
    go_ret2
    exact ⟨rfl, rfl⟩
theorem add_over (a b : Int) (w : World) (ha : 0 ≤ a) (hb : 0 ≤ b) (hb' : b ≤ 9223372036854775807) (h : 9223372036854775807 < a + b) : Calls Try.prog 10 #[.int .i64 a, .int .i64 b] w (Pure2 0 5 w) := by
  go_enter Try.func10, Try.ntmps10
  go_wp2
  go_ret2
  exact ⟨rfl, rfl⟩
theorem add_ok (a b : Int) (w : World) (ha : 0 ≤ a) (hb : 0 ≤ b) (h : a + b ≤ 9223372036854775807) : Calls Try.prog 10 #[.int .i64 a, .int .i64 b] w (Pure2 (a + b) 0 w) := by
  go_enter Try.func10, Try.ntmps10
  go_wp2
  go_ret2
  exact ⟨rfl, rfl⟩
theorem sub_arg (a b : Int) (w : World) (h : a < 0 ∨ b < 0) : Calls Try.prog 12 #[.int .i64 a, .int .i64 b] w (Pure2 0 1 w) := by
  by_cases h1 : a < 0
  · go_enter Try.func12, Try.ntmps12
    go_wp2
    go_ret2
    exact ⟨rfl, rfl⟩
  · have h2 : b < 0 := by omega
    go_enter Try.func12, Try.ntmps12
    go_wp2
    go_ret2
    exact ⟨rfl, rfl⟩
theorem sub_over (a b : Int) (w : World) (ha : 0 ≤ a) (hb' : b ≤ 9223372036854775807) (h : a < b) : Calls Try.prog 12 #[.int .i64 a, .int .i64 b] w (Pure2 0 5 w) := by
  go_enter Try.func12, Try.ntmps12
  go_wp2
  go_ret2
  exact ⟨rfl, rfl⟩
theorem sub_ok (a b : Int) (w : World) (hb : 0 ≤ b) (ha' : a ≤ 9223372036854775807) (h : b ≤ a) : Calls Try.prog 12 #[.int .i64 a, .int .i64 b] w (Pure2 (a - b) 0 w) := by
  go_enter Try.func12, Try.ntmps12
  go_wp2
  go_ret2
  exact ⟨rfl, rfl⟩
theorem mul_arg (a b : Int) (w : World) (h : a < 0 ∨ b < 0) : Calls Try.prog 14 #[.int .i64 a, .int .i64 b] w (Pure2 0 1 w) := by
  by_cases h1 : a < 0
  · go_enter Try.func14, Try.ntmps14
    go_wp2
    go_ret2
    exact ⟨rfl, rfl⟩
  · have h2 : b < 0 := by omega
    go_enter Try.func14, Try.ntmps14
    go_wp2
    go_ret2
    exact ⟨rfl, rfl⟩
theorem mul_over (a b : Int) (w : World) (ha : 0 ≤ a) (hb : 0 ≤ b) (ha' : a ≤ 9223372036854775807) (hb' : b ≤ 9223372036854775807) (h : 9223372036854775807 < a * b) : Calls Try.prog 14 #[.int .i64 a, .int .i64 b] w (Pure2 0 5 w) := by
  have g0 := mulHi_nonneg ha hb
  have g1 := mulHi_le ha hb ha' hb'
  have g2 := (mulLo_bd a b).1
  have g3 := (mulLo_bd a b).2
  have g4 := mul_great h
  clear h
  by_cases hz : 0 < mulHi a b
  · clear g4
    go_enter Try.func14, Try.ntmps14
    go_wp2_with (go_at_call 22; refine (mul64_any _ _ ha hb ha' hb' _).mono ?_; rintro e w' ⟨rfl, rfl⟩)
    go_ret2
    exact ⟨rfl, rfl⟩
  · have g5 : 9223372036854775807 < mulLo a b := by omega
    clear g4
    go_enter Try.func14, Try.ntmps14
    go_wp2_with (go_at_call 22; refine (mul64_any _ _ ha hb ha' hb' _).mono ?_; rintro e w' ⟨rfl, rfl⟩)
    go_ret2
    exact ⟨rfl, rfl⟩
theorem mul_ok (a b : Int) (w : World) (ha : 0 ≤ a) (hb : 0 ≤ b) (ha' : a ≤ 9223372036854775807) (hb' : b ≤ 9223372036854775807) (h : a * b ≤ 9223372036854775807) : Calls Try.prog 14 #[.int .i64 a, .int .i64 b] w (Pure2 (a * b) 0 w) := by
  have g0 := mulHi_nonneg ha hb
  obtain ⟨g1, g2⟩ := mulHi_small (mul_nonneg' ha hb) h
  have g3 := mul_nonneg' ha hb
  rw [← g2] at h g3
  have G := Lib.hid g2
  clear g2
  go_enter Try.func14, Try.ntmps14
  go_wp2_with (go_at_call 22; refine (mul64_any _ _ ha hb ha' hb' _).mono ?_; rintro e w' ⟨rfl, rfl⟩)
  go_ret2
  exact ⟨ret_pair G.out rfl, rfl⟩
theorem radd_arg (a b : Int) (w : World) (h : a < 0 ∨ b < 0) : Calls Try.prog 11 #[.int .i64 a, .int .i64 b] w (Pure2 0 1 w) := by
  by_cases h1 : a < 0
  · go_enter Try.func11, Try.ntmps11
    go_wp2
    go_ret2
    exact ⟨rfl, rfl⟩
  · have h2 : b < 0 := by omega
    go_enter Try.func11, Try.ntmps11
    go_wp2
    go_ret2
    exact ⟨rfl, rfl⟩
theorem radd_over (a b : Int) (w : World) (ha : 0 ≤ a) (hb : 0 ≤ b) (hb' : b ≤ 9223372036854775807) (h : 9223372036854775807 < a + b) : Calls Try.prog 11 #[.int .i64 a, .int .i64 b] w (Pure2 0 5 w) := by
  go_enter Try.func11, Try.ntmps11
  go_wp2
  go_ret2
  exact ⟨rfl, rfl⟩
theorem radd_ok (a b : Int) (w : World) (ha : 0 ≤ a) (hb : 0 ≤ b) (h : a + b ≤ 9223372036854775807) : Calls Try.prog 11 #[.int .i64 a, .int .i64 b] w (Pure2 (a + b) 0 w) := by
  go_enter Try.func11, Try.ntmps11
  go_wp2
  go_ret2
  exact ⟨rfl, rfl⟩
theorem rsub_arg (a b : Int) (w : World) (h : a < 0 ∨ b < 0) : Calls Try.prog 13 #[.int .i64 a, .int .i64 b] w (Pure2 0 1 w) := by
  by_cases h1 : a < 0
  · go_enter Try.func13, Try.ntmps13
    go_wp2
    go_ret2
    exact ⟨rfl, rfl⟩
  · have h2 : b < 0 := by omega
    go_enter Try.func13, Try.ntmps13
    go_wp2
    go_ret2
    exact ⟨rfl, rfl⟩
theorem rsub_over (a b : Int) (w : World) (ha : 0 ≤ a) (hb' : b ≤ 9223372036854775807) (h : a < b) : Calls Try.prog 13 #[.int .i64 a, .int .i64 b] w (Pure2 0 5 w) := by
  go_enter Try.func13, Try.ntmps13
  go_wp2
  go_ret2
  exact ⟨rfl, rfl⟩
theorem rsub_ok (a b : Int) (w : World) (hb : 0 ≤ b) (ha' : a ≤ 9223372036854775807) (h : b ≤ a) : Calls Try.prog 13 #[.int .i64 a, .int .i64 b] w (Pure2 (a - b) 0 w) := by
  go_enter Try.func13, Try.ntmps13
  go_wp2
  go_ret2
  exact ⟨rfl, rfl⟩
theorem rmul_arg (a b : Int) (w : World) (h : a < 0 ∨ b < 0) : Calls Try.prog 15 #[.int .i64 a, .int .i64 b] w (Pure2 0 1 w) := by
  by_cases h1 : a < 0
  · go_enter Try.func15, Try.ntmps15
    go_wp2
    go_ret2
    exact ⟨rfl, rfl⟩
  · have h2 : b < 0 := by omega
    go_enter Try.func15, Try.ntmps15
    go_wp2
    go_ret2
    exact ⟨rfl, rfl⟩
theorem rmul_over (a b : Int) (w : World) (ha : 0 ≤ a) (hb : 0 ≤ b) (ha' : a ≤ 9223372036854775807) (hb' : b ≤ 9223372036854775807) (h : 9223372036854775807 < a * b) : Calls Try.prog 15 #[.int .i64 a, .int .i64 b] w (Pure2 0 5 w) := by
  have g0 : 1 ≤ a := by
    rcases Int.lt_or_eq_of_le ha with g | g
    · omega
    · rw [← g, Int.zero_mul] at h; omega
  have g1 : 9223372036854775807 / a < b := (Int.ediv_lt_iff_lt_mul (by omega)).2 (by rw [Int.mul_comm]; exact h)
  have g2 : 0 ≤ 9223372036854775807 / a := Int.ediv_nonneg (by omega) ha
  have g3 : 9223372036854775807 / a ≤ 9223372036854775807 := Int.ediv_le_self _ (by omega)
  clear h
  go_enter Try.func15, Try.ntmps15
  go_wp2
  go_ret2
  exact ⟨rfl, rfl⟩
theorem rmul_ok (a b : Int) (w : World) (ha : 0 ≤ a) (hb : 0 ≤ b) (ha' : a ≤ 9223372036854775807) (hb' : b ≤ 9223372036854775807) (h : a * b ≤ 9223372036854775807) : Calls Try.prog 15 #[.int .i64 a, .int .i64 b] w (Pure2 (a * b) 0 w) := by
  have g4 := mul_nonneg' ha hb
  by_cases g0 : 1 ≤ a
  · have g1 : b ≤ 9223372036854775807 / a := (Int.le_ediv_iff_mul_le (by omega)).2 (by rw [Int.mul_comm]; exact h)
    have g2 : 0 ≤ 9223372036854775807 / a := Int.ediv_nonneg (by omega) ha
    have g3 : 9223372036854775807 / a ≤ 9223372036854775807 := Int.ediv_le_self _ (by omega)
    go_enter Try.func15, Try.ntmps15
    go_wp2
    go_ret2
    exact ⟨rfl, rfl⟩
  · have g1 : a = 0 := by omega
    subst g1
    go_enter Try.func15, Try.ntmps15
    go_wp2
    go_ret2
    exact ⟨ret_pair (by omega) rfl, rfl⟩

end Go.Proofs.Ytocidfnfoaapcaa
