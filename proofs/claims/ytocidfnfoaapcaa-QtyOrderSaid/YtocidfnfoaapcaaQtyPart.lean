/- What each call of package qty's parts answers, said of whole numbers, and what each call of the reference's does. -/
import Derived.Test.YtocidfnfoaapcaaQtyCalls
namespace Go.Proofs.Ytocidfnfoaapcaa
open Go.RowKit
set_option linter.unusedVariables false

theorem div_mul (a p : Int) (ha : 0 ≤ a) (hp : 0 ≤ p) (h : mulHi a p ≤ 999) (w : World) :
    Calls Try.prog 28 #[.int .u64 (mulHi a p), .int .u64 (mulLo a p), .int .u64 1000] w fun e w' => e = .returned (.tuple #[.int .u64 (parQ a p), .int .u64 (parR a p)]) ∧ ∃ n, w' = w.drewN n := by
  rw [← divQ_mul, ← divR_mul]
  exact div64_any _ _ (mulHi_nonneg ha hp) h (mulLo_bd a p).1 (mulLo_bd a p).2 w

theorem divided_arg (a b : Int) (w : World) (h : a < 0 ∨ b < 0) : Calls Try.prog 23 #[.int .i64 a, .int .i64 b] w (Ans3 .u64 0 0 1 w) := by
  by_cases h1 : a < 0
  · go_enter Try.func23, Try.ntmps23
    go_wp2
    go_ret3
    exact ⟨rfl, Kept.refl _⟩
  · have h2 : b < 0 := by omega
    go_enter Try.func23, Try.ntmps23
    go_wp2
    go_ret3
    exact ⟨rfl, Kept.refl _⟩
theorem divided_over (a b : Int) (w : World) (ha : 0 ≤ a) (hb : 0 ≤ b) (ha' : a ≤ 9223372036854775807) (hb' : b ≤ 9223372036854775807) (h : 9223372036854775807 < parQ a b) : Calls Try.prog 23 #[.int .i64 a, .int .i64 b] w (Ans3 .u64 0 0 5 w) := by
  have g0 := mulHi_nonneg ha hb
  have g1 := mulHi_le ha hb ha' hb'
  have g2 := (mulLo_bd a b).1
  have g3 := (mulLo_bd a b).2
  have q0 := parQ_nonneg ha hb
  have q1 := (parR_bd a b).1
  have q2 := (parR_bd a b).2
  have q3 : parQ a b ≤ 18446744073709551615 ∨ 1000 ≤ mulHi a b := by
    have e := divQ_mul a b
    unfold divQ at e
    omega
  by_cases hz : 1000 ≤ mulHi a b
  · clear q3
    go_enter Try.func23, Try.ntmps23
    go_wp2_with ((go_at_call 22; refine (mul64_any _ _ ha hb ha' hb' _).mono ?_; rintro e w' ⟨rfl, rfl⟩))
    go_ret3
    exact ⟨rfl, Kept.refl _⟩
  · have g5 : mulHi a b ≤ 999 := by omega
    have q4 : parQ a b ≤ 18446744073709551615 := by omega
    clear q3
    go_enter Try.func23, Try.ntmps23
    go_wp2_with (first | (go_at_call 22; refine (mul64_any _ _ ha hb ha' hb' _).mono ?_; rintro e w' ⟨rfl, rfl⟩) | (go_at_call 28; refine (div_mul _ _ ha hb g5 _).mono ?_; rintro e w' ⟨rfl, n, rfl⟩))
    go_ret3
    exact ⟨rfl, Kept.drewN _ _⟩
theorem divided_ok (a b : Int) (w : World) (ha : 0 ≤ a) (hb : 0 ≤ b) (ha' : a ≤ 9223372036854775807) (hb' : b ≤ 9223372036854775807) (h : parQ a b ≤ 9223372036854775807) : Calls Try.prog 23 #[.int .i64 a, .int .i64 b] w (Ans3 .u64 (parQ a b) (parR a b) 0 w) := by
  have g0 := mulHi_nonneg ha hb
  have g1 := mulHi_le ha hb ha' hb'
  have g2 := (mulLo_bd a b).1
  have g3 := (mulLo_bd a b).2
  have q0 := parQ_nonneg ha hb
  have q1 := (parR_bd a b).1
  have q2 := (parR_bd a b).2
  have g5 : mulHi a b ≤ 999 := by
    by_cases hz : 1000 ≤ mulHi a b
    · have := hi_ge hz
      omega
    · omega
  go_enter Try.func23, Try.ntmps23
  go_wp2_with (first | (go_at_call 22; refine (mul64_any _ _ ha hb ha' hb' _).mono ?_; rintro e w' ⟨rfl, rfl⟩) | (go_at_call 28; refine (div_mul _ _ ha hb g5 _).mono ?_; rintro e w' ⟨rfl, n, rfl⟩))
  go_ret3
  exact ⟨rfl, Kept.drewN _ _⟩
theorem rdivd_arg (a b : Int) (w : World) (h : a < 0 ∨ b < 0) : Calls Try.prog 24 #[.int .i64 a, .int .i64 b] w (Ans3 .i64 0 0 1 w) := by
  by_cases h1 : a < 0
  · go_enter Try.func24, Try.ntmps24
    go_wp2
    go_ret3
    exact ⟨rfl, Kept.refl _⟩
  · have h2 : b < 0 := by omega
    go_enter Try.func24, Try.ntmps24
    go_wp2
    go_ret3
    exact ⟨rfl, Kept.refl _⟩
theorem rdivd_over (a b : Int) (w : World) (ha : 0 ≤ a) (hb : 0 ≤ b) (ha' : a ≤ 9223372036854775807) (hb' : b ≤ 9223372036854775807) (h : 9223372036854775807 < parQ a b) : Calls Try.prog 24 #[.int .i64 a, .int .i64 b] w (Ans3 .i64 0 0 5 w) := by
  have e := part_sum a b
  have x0 : 0 ≤ a * (b / 1000) := mul_nonneg' ha (by omega)
  have x1 : 0 ≤ a / 1000 * (b % 1000) := mul_nonneg' (by omega) (by omega)
  have x2 : 0 ≤ a % 1000 * (b % 1000) := mul_nonneg' (by omega) (by omega)
  have x3 : a % 1000 * (b % 1000) ≤ 999 * 999 := Int.mul_le_mul (by omega) (by omega) (by omega) (by omega)
  have y0 : 0 ≤ b / 1000 := by omega
  have y1 : b / 1000 ≤ 9223372036854775807 := by omega
  have y2 : 0 ≤ a / 1000 := by omega
  have y3 : a / 1000 ≤ 9223372036854775807 := by omega
  have y4 : 0 ≤ b % 1000 := by omega
  have y5 : b % 1000 ≤ 9223372036854775807 := by omega
  have he := h
  rw [e] at he
  clear e h
  by_cases c1 : 9223372036854775807 < a * (b / 1000)
  · clear he x2 x3
    go_enter Try.func24, Try.ntmps24
    go_wp2_with fail
    refine (rmul_over _ _ _ ha y0 ha' y1 c1).mono ?_
    rintro e1 w1 ⟨rfl, rfl⟩
    go_wp2_with fail
    go_ret3
    exact ⟨rfl, Kept.refl _⟩
  · have c1' : a * (b / 1000) ≤ 9223372036854775807 := by omega
    by_cases c2 : 9223372036854775807 < a / 1000 * (b % 1000)
    · clear he
      go_enter Try.func24, Try.ntmps24
      go_wp2_with fail
      refine (rmul_ok _ _ _ ha y0 ha' y1 c1').mono ?_
      rintro e1 w1 ⟨rfl, rfl⟩
      go_wp2_with fail
      refine (rmul_over _ _ _ y2 y4 y3 y5 c2).mono ?_
      rintro e1 w1 ⟨rfl, rfl⟩
      go_wp2_with fail
      go_ret3
      exact ⟨rfl, Kept.refl _⟩
    · have c2' : a / 1000 * (b % 1000) ≤ 9223372036854775807 := by omega
      by_cases c3 : 9223372036854775807 < a * (b / 1000) + a / 1000 * (b % 1000)
      · clear he
        go_enter Try.func24, Try.ntmps24
        go_wp2_with fail
        refine (rmul_ok _ _ _ ha y0 ha' y1 c1').mono ?_
        rintro e1 w1 ⟨rfl, rfl⟩
        go_wp2_with fail
        refine (rmul_ok _ _ _ y2 y4 y3 y5 c2').mono ?_
        rintro e1 w1 ⟨rfl, rfl⟩
        go_wp2_with fail
        refine (radd_over _ _ _ x0 x1 c2' c3).mono ?_
        rintro e1 w1 ⟨rfl, rfl⟩
        go_wp2_with fail
        go_ret3
        exact ⟨rfl, Kept.refl _⟩
      · have c3' : a * (b / 1000) + a / 1000 * (b % 1000) ≤ 9223372036854775807 := by omega
        have c4 : 0 ≤ a * (b / 1000) + a / 1000 * (b % 1000) := by omega
        have c5 : a % 1000 * (b % 1000) / 1000 ≤ 9223372036854775807 := by omega
        go_enter Try.func24, Try.ntmps24
        go_wp2_with fail
        refine (rmul_ok _ _ _ ha y0 ha' y1 c1').mono ?_
        rintro e1 w1 ⟨rfl, rfl⟩
        go_wp2_with fail
        refine (rmul_ok _ _ _ y2 y4 y3 y5 c2').mono ?_
        rintro e1 w1 ⟨rfl, rfl⟩
        go_wp2_with fail
        refine (radd_ok _ _ _ x0 x1 c3').mono ?_
        rintro e1 w1 ⟨rfl, rfl⟩
        go_wp2_with fail
        refine (radd_over _ _ _ c4 (by omega) c5 he).mono ?_
        rintro e1 w1 ⟨rfl, rfl⟩
        go_wp2_with fail
        go_ret3
        exact ⟨rfl, Kept.refl _⟩
theorem rdivd_ok (a b : Int) (w : World) (ha : 0 ≤ a) (hb : 0 ≤ b) (ha' : a ≤ 9223372036854775807) (hb' : b ≤ 9223372036854775807) (h : parQ a b ≤ 9223372036854775807) : Calls Try.prog 24 #[.int .i64 a, .int .i64 b] w (Ans3 .i64 (parQ a b) (parR a b) 0 w) := by
  have e := part_sum a b
  have x0 : 0 ≤ a * (b / 1000) := mul_nonneg' ha (by omega)
  have x1 : 0 ≤ a / 1000 * (b % 1000) := mul_nonneg' (by omega) (by omega)
  have x2 : 0 ≤ a % 1000 * (b % 1000) := mul_nonneg' (by omega) (by omega)
  have x3 : a % 1000 * (b % 1000) ≤ 999 * 999 := Int.mul_le_mul (by omega) (by omega) (by omega) (by omega)
  have y0 : 0 ≤ b / 1000 := by omega
  have y1 : b / 1000 ≤ 9223372036854775807 := by omega
  have y2 : 0 ≤ a / 1000 := by omega
  have y3 : a / 1000 ≤ 9223372036854775807 := by omega
  have y4 : 0 ≤ b % 1000 := by omega
  have y5 : b % 1000 ≤ 9223372036854775807 := by omega
  have he := h
  rw [e] at he
  have c1' : a * (b / 1000) ≤ 9223372036854775807 := by omega
  have c2' : a / 1000 * (b % 1000) ≤ 9223372036854775807 := by omega
  have c3' : a * (b / 1000) + a / 1000 * (b % 1000) ≤ 9223372036854775807 := by omega
  have c4 : 0 ≤ a * (b / 1000) + a / 1000 * (b % 1000) := by omega
  have E := Lib.hid e.symm
  have R := Lib.hid (part_rest a b).symm
  clear e h
  go_enter Try.func24, Try.ntmps24
  go_wp2_with fail
  refine (rmul_ok _ _ _ ha y0 ha' y1 c1').mono ?_
  rintro e1 w1 ⟨rfl, rfl⟩
  go_wp2_with fail
  refine (rmul_ok _ _ _ y2 y4 y3 y5 c2').mono ?_
  rintro e1 w1 ⟨rfl, rfl⟩
  go_wp2_with fail
  refine (radd_ok _ _ _ x0 x1 c3').mono ?_
  rintro e1 w1 ⟨rfl, rfl⟩
  go_wp2_with fail
  refine (radd_ok _ _ _ c4 (by omega) he).mono ?_
  rintro e1 w1 ⟨rfl, rfl⟩
  go_wp2_with fail
  go_ret3
  exact ⟨ret_three E.out R.out rfl, Kept.refl _⟩

end Go.Proofs.Ytocidfnfoaapcaa
