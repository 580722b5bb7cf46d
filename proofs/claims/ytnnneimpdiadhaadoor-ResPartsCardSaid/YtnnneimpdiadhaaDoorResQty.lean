/- What each call of package qty answers, said of whole numbers, and what each call of the reference does. -/
import Derived.Test.YtnnneimpdiadhaaDoorQtyDiv
import Derived.Test.YtnnneimpdiadhaaDoorLabBase
namespace Go.Proofs.YtnnneimpdiadhaaDoor.Vec
open Go.RowKit
set_option linter.unusedVariables false

/-- The answer: a number and an error; nothing made, nothing drawn. -/
def Pure2 (v x : Int) (w : World) (e : Ending) (w' : World) : Prop := e = .returned (.tuple #[.int .i64 v, .int .i64 x]) ∧ w = w'
/-- The answer: a number and an error; the order of some reads was drawn. -/
def Ans (v x : Int) (w : World) (e : Ending) (w' : World) : Prop := e = .returned (.tuple #[.int .i64 v, .int .i64 x]) ∧ Kept w w'
/-- The answer; nothing but the count of draws has turned. -/
def AnsQ (v x : Int) (w : World) (e : Ending) (w' : World) : Prop := e = .returned (.tuple #[.int .i64 v, .int .i64 x]) ∧ ∃ n, w' = w.drewN n
def AnsQ3 (k : IntKind) (v r x : Int) (w : World) (e : Ending) (w' : World) : Prop := e = .returned (.tuple #[.int .i64 v, .int k r, .int .i64 x]) ∧ ∃ n, w' = w.drewN n
def Ans3 (k : IntKind) (v r x : Int) (w : World) (e : Ending) (w' : World) : Prop := e = .returned (.tuple #[.int .i64 v, .int k r, .int .i64 x]) ∧ Kept w w'

theorem Pure2.ans {v x : Int} {w : World} {e : Ending} {w' : World} (h : Pure2 v x w e w') : Ans v x w e w' := by
  obtain ⟨rfl, rfl⟩ := h
  exact ⟨rfl, Kept.refl _⟩

theorem Pure2.quiet {v x : Int} {w : World} {e : Ending} {w' : World} (h : Pure2 v x w e w') : AnsQ v x w e w' := by
  obtain ⟨rfl, rfl⟩ := h
  exact ⟨rfl, 0, rfl⟩

theorem add_arg (a b : Int) (w : World) (h : a < 0 ∨ b < 0) : Calls Tryd.prog 25 #[.int .i64 a, .int .i64 b] w (Pure2 0 1 w) := by
  by_cases h1 : a < 0
  · go_enter Tryd.func25, Tryd.ntmps25
    go_wp2
    go_ret2
    exact ⟨rfl, rfl⟩
  · have h2 : b < 0 := by omega
    go_enter Tryd.func25, Tryd.ntmps25
    go_wp2
    go_ret2
    exact ⟨rfl, rfl⟩
theorem add_over (a b : Int) (w : World) (ha : 0 ≤ a) (hb : 0 ≤ b) (hb' : b ≤ 9223372036854775807) (h : 9223372036854775807 < a + b) : Calls Tryd.prog 25 #[.int .i64 a, .int .i64 b] w (Pure2 0 5 w) := by
  go_enter Tryd.func25, Tryd.ntmps25
  go_wp2
  go_ret2
  exact ⟨rfl, rfl⟩
theorem add_ok (a b : Int) (w : World) (ha : 0 ≤ a) (hb : 0 ≤ b) (h : a + b ≤ 9223372036854775807) : Calls Tryd.prog 25 #[.int .i64 a, .int .i64 b] w (Pure2 (a + b) 0 w) := by
  go_enter Tryd.func25, Tryd.ntmps25
  go_wp2
  go_ret2
  exact ⟨rfl, rfl⟩
theorem sub_arg (a b : Int) (w : World) (h : a < 0 ∨ b < 0) : Calls Tryd.prog 28 #[.int .i64 a, .int .i64 b] w (Pure2 0 1 w) := by
  by_cases h1 : a < 0
  · go_enter Tryd.func28, Tryd.ntmps28
    go_wp2
    go_ret2
    exact ⟨rfl, rfl⟩
  · have h2 : b < 0 := by omega
    go_enter Tryd.func28, Tryd.ntmps28
    go_wp2
    go_ret2
    exact ⟨rfl, rfl⟩
theorem sub_over (a b : Int) (w : World) (ha : 0 ≤ a) (hb' : b ≤ 9223372036854775807) (h : a < b) : Calls Tryd.prog 28 #[.int .i64 a, .int .i64 b] w (Pure2 0 5 w) := by
  go_enter Tryd.func28, Tryd.ntmps28
  go_wp2
  go_ret2
  exact ⟨rfl, rfl⟩
theorem sub_ok (a b : Int) (w : World) (hb : 0 ≤ b) (ha' : a ≤ 9223372036854775807) (h : b ≤ a) : Calls Tryd.prog 28 #[.int .i64 a, .int .i64 b] w (Pure2 (a - b) 0 w) := by
  go_enter Tryd.func28, Tryd.ntmps28
  go_wp2
  go_ret2
  exact ⟨rfl, rfl⟩
theorem mul_arg (a b : Int) (w : World) (h : a < 0 ∨ b < 0) : Calls Tryd.prog 33 #[.int .i64 a, .int .i64 b] w (Pure2 0 1 w) := by
  by_cases h1 : a < 0
  · go_enter Tryd.func33, Tryd.ntmps33
    go_wp2
    go_ret2
    exact ⟨rfl, rfl⟩
  · have h2 : b < 0 := by omega
    go_enter Tryd.func33, Tryd.ntmps33
    go_wp2
    go_ret2
    exact ⟨rfl, rfl⟩
theorem mul_over (a b : Int) (w : World) (ha : 0 ≤ a) (hb : 0 ≤ b) (ha' : a ≤ 9223372036854775807) (hb' : b ≤ 9223372036854775807) (h : 9223372036854775807 < a * b) : Calls Tryd.prog 33 #[.int .i64 a, .int .i64 b] w (Pure2 0 5 w) := by
  have g0 := mulHi_nonneg ha hb
  have g1 := mulHi_le ha hb ha' hb'
  have g2 := (mulLo_bd a b).1
  have g3 := (mulLo_bd a b).2
  have g4 := mul_great h
  clear h
  by_cases hz : 0 < mulHi a b
  · clear g4
    go_enter Tryd.func33, Tryd.ntmps33
    go_wp2_with (go_at_call 48; refine (mul64_any _ _ ha hb ha' hb' _).mono ?_; rintro e w' ⟨rfl, rfl⟩)
    go_ret2
    exact ⟨rfl, rfl⟩
  · have g5 : 9223372036854775807 < mulLo a b := by omega
    clear g4
    go_enter Tryd.func33, Tryd.ntmps33
    go_wp2_with (go_at_call 48; refine (mul64_any _ _ ha hb ha' hb' _).mono ?_; rintro e w' ⟨rfl, rfl⟩)
    go_ret2
    exact ⟨rfl, rfl⟩
theorem mul_ok (a b : Int) (w : World) (ha : 0 ≤ a) (hb : 0 ≤ b) (ha' : a ≤ 9223372036854775807) (hb' : b ≤ 9223372036854775807) (h : a * b ≤ 9223372036854775807) : Calls Tryd.prog 33 #[.int .i64 a, .int .i64 b] w (Pure2 (a * b) 0 w) := by
  have g0 := mulHi_nonneg ha hb
  obtain ⟨g1, g2⟩ := mulHi_small (mul_nonneg' ha hb) h
  have g3 := mul_nonneg' ha hb
  rw [← g2] at h g3
  have G := Lib.hid g2
  clear g2
  go_enter Tryd.func33, Tryd.ntmps33
  go_wp2_with (go_at_call 48; refine (mul64_any _ _ ha hb ha' hb' _).mono ?_; rintro e w' ⟨rfl, rfl⟩)
  go_ret2
  exact ⟨ret_pair G.out rfl, rfl⟩

theorem div_mul (a p : Int) (ha : 0 ≤ a) (hp : 0 ≤ p) (h : mulHi a p ≤ 999) (w : World) :
    Calls Tryd.prog 56 #[.int .u64 (mulHi a p), .int .u64 (mulLo a p), .int .u64 1000] w fun e w' => e = .returned (.tuple #[.int .u64 (parQ a p), .int .u64 (parR a p)]) ∧ ∃ n, w' = w.drewN n := by
  rw [← divQ_mul, ← divR_mul]
  exact div64_any _ _ (mulHi_nonneg ha hp) h (mulLo_bd a p).1 (mulLo_bd a p).2 w

theorem divided_arg (a b : Int) (w : World) (h : a < 0 ∨ b < 0) : Calls Tryd.prog 49 #[.int .i64 a, .int .i64 b] w (Ans3 .u64 0 0 1 w) := by
  by_cases h1 : a < 0
  · go_enter Tryd.func49, Tryd.ntmps49
    go_wp2
    go_ret3
    exact ⟨rfl, Kept.refl _⟩
  · have h2 : b < 0 := by omega
    go_enter Tryd.func49, Tryd.ntmps49
    go_wp2
    go_ret3
    exact ⟨rfl, Kept.refl _⟩
theorem divided_over (a b : Int) (w : World) (ha : 0 ≤ a) (hb : 0 ≤ b) (ha' : a ≤ 9223372036854775807) (hb' : b ≤ 9223372036854775807) (h : 9223372036854775807 < parQ a b) : Calls Tryd.prog 49 #[.int .i64 a, .int .i64 b] w (Ans3 .u64 0 0 5 w) := by
  have g0 := mulHi_nonneg ha hb
  have g1 := mulHi_le ha hb ha' hb'
  have g2 := (mulLo_bd a b).1
  have g3 := (mulLo_bd a b).2
  have q0 := parQ_nonneg ha hb
  have q1 := (parR_bd a b).1
  have q2 := (parR_bd a b).2
  have q3 : parQ a b ≤ 18446744073709551615 ∨ 1000 ≤ mulHi a b := by
    have e := divQ_mul a b
    unfold divQ at e
    omega
  by_cases hz : 1000 ≤ mulHi a b
  · clear q3
    go_enter Tryd.func49, Tryd.ntmps49
    go_wp2_with ((go_at_call 48; refine (mul64_any _ _ ha hb ha' hb' _).mono ?_; rintro e w' ⟨rfl, rfl⟩))
    go_ret3
    exact ⟨rfl, Kept.refl _⟩
  · have g5 : mulHi a b ≤ 999 := by omega
    have q4 : parQ a b ≤ 18446744073709551615 := by omega
    clear q3
    go_enter Tryd.func49, Tryd.ntmps49
    go_wp2_with (first | (go_at_call 48; refine (mul64_any _ _ ha hb ha' hb' _).mono ?_; rintro e w' ⟨rfl, rfl⟩) | (go_at_call 56; refine (div_mul _ _ ha hb g5 _).mono ?_; rintro e w' ⟨rfl, n, rfl⟩))
    go_ret3
    exact ⟨rfl, Kept.drewN _ _⟩
theorem divided_ok (a b : Int) (w : World) (ha : 0 ≤ a) (hb : 0 ≤ b) (ha' : a ≤ 9223372036854775807) (hb' : b ≤ 9223372036854775807) (h : parQ a b ≤ 9223372036854775807) : Calls Tryd.prog 49 #[.int .i64 a, .int .i64 b] w (Ans3 .u64 (parQ a b) (parR a b) 0 w) := by
  have g0 := mulHi_nonneg ha hb
  have g1 := mulHi_le ha hb ha' hb'
  have g2 := (mulLo_bd a b).1
  have g3 := (mulLo_bd a b).2
  have q0 := parQ_nonneg ha hb
  have q1 := (parR_bd a b).1
  have q2 := (parR_bd a b).2
  have g5 : mulHi a b ≤ 999 := by
    by_cases hz : 1000 ≤ mulHi a b
    · have := hi_ge hz
      omega
    · omega
  go_enter Tryd.func49, Tryd.ntmps49
  go_wp2_with (first | (go_at_call 48; refine (mul64_any _ _ ha hb ha' hb' _).mono ?_; rintro e w' ⟨rfl, rfl⟩) | (go_at_call 56; refine (div_mul _ _ ha hb g5 _).mono ?_; rintro e w' ⟨rfl, n, rfl⟩))
  go_ret3
  exact ⟨rfl, Kept.drewN _ _⟩
theorem dividedq_arg (a b : Int) (w : World) (h : a < 0 ∨ b < 0) : Calls Tryd.prog 49 #[.int .i64 a, .int .i64 b] w (AnsQ3 .u64 0 0 1 w) := by
  by_cases h1 : a < 0
  · go_enter Tryd.func49, Tryd.ntmps49
    go_wp2
    go_ret3
    exact ⟨rfl, 0, rfl⟩
  · have h2 : b < 0 := by omega
    go_enter Tryd.func49, Tryd.ntmps49
    go_wp2
    go_ret3
    exact ⟨rfl, 0, rfl⟩
theorem dividedq_over (a b : Int) (w : World) (ha : 0 ≤ a) (hb : 0 ≤ b) (ha' : a ≤ 9223372036854775807) (hb' : b ≤ 9223372036854775807) (h : 9223372036854775807 < parQ a b) : Calls Tryd.prog 49 #[.int .i64 a, .int .i64 b] w (AnsQ3 .u64 0 0 5 w) := by
  have g0 := mulHi_nonneg ha hb
  have g1 := mulHi_le ha hb ha' hb'
  have g2 := (mulLo_bd a b).1
  have g3 := (mulLo_bd a b).2
  have q0 := parQ_nonneg ha hb
  have q1 := (parR_bd a b).1
  have q2 := (parR_bd a b).2
  have q3 : parQ a b ≤ 18446744073709551615 ∨ 1000 ≤ mulHi a b := by
    have e := divQ_mul a b
    unfold divQ at e
    omega
  by_cases hz : 1000 ≤ mulHi a b
  · clear q3
    go_enter Tryd.func49, Tryd.ntmps49
    go_wp2_with ((go_at_call 48; refine (mul64_any _ _ ha hb ha' hb' _).mono ?_; rintro e w' ⟨rfl, rfl⟩))
    go_ret3
    exact ⟨rfl, 0, rfl⟩
  · have g5 : mulHi a b ≤ 999 := by omega
    have q4 : parQ a b ≤ 18446744073709551615 := by omega
    clear q3
    go_enter Tryd.func49, Tryd.ntmps49
    go_wp2_with (first | (go_at_call 48; refine (mul64_any _ _ ha hb ha' hb' _).mono ?_; rintro e w' ⟨rfl, rfl⟩) | (go_at_call 56; refine (div_mul _ _ ha hb g5 _).mono ?_; rintro e w' ⟨rfl, n, rfl⟩))
    go_ret3
    exact ⟨rfl, _, rfl⟩
theorem dividedq_ok (a b : Int) (w : World) (ha : 0 ≤ a) (hb : 0 ≤ b) (ha' : a ≤ 9223372036854775807) (hb' : b ≤ 9223372036854775807) (h : parQ a b ≤ 9223372036854775807) : Calls Tryd.prog 49 #[.int .i64 a, .int .i64 b] w (AnsQ3 .u64 (parQ a b) (parR a b) 0 w) := by
  have g0 := mulHi_nonneg ha hb
  have g1 := mulHi_le ha hb ha' hb'
  have g2 := (mulLo_bd a b).1
  have g3 := (mulLo_bd a b).2
  have q0 := parQ_nonneg ha hb
  have q1 := (parR_bd a b).1
  have q2 := (parR_bd a b).2
  have g5 : mulHi a b ≤ 999 := by
    by_cases hz : 1000 ≤ mulHi a b
    · have := hi_ge hz
      omega
    · omega
  go_enter Tryd.func49, Tryd.ntmps49
  go_wp2_with (first | (go_at_call 48; refine (mul64_any _ _ ha hb ha' hb' _).mono ?_; rintro e w' ⟨rfl, rfl⟩) | (go_at_call 56; refine (div_mul _ _ ha hb g5 _).mono ?_; rintro e w' ⟨rfl, n, rfl⟩))
  go_ret3
  exact ⟨rfl, _, rfl⟩

end Go.Proofs.YtnnneimpdiadhaaDoor.Vec
