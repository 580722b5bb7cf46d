/- What each call of Part and PartUp answers, package qty's and the reference's. -/
import Derived.Test.YtocidfnfoaapcaaQtyPart
namespace Go.Proofs.Ytocidfnfoaapcaa
open Go.RowKit
set_option linter.unusedVariables false

theorem part_arg (a b : Int) (w : World) (h : a < 0 ∨ b < 0) : Calls Try.prog 16 #[.int .i64 a, .int .i64 b] w (Ans 0 1 w) := by
  go_enter Try.func16, Try.ntmps16
  go_wp2_with fail
  refine (divided_arg _ _ _ h).mono ?_
  rintro e1 w1 ⟨rfl, hk⟩
  go_wp2_with fail
  go_ret2
  exact ⟨rfl, hk⟩
theorem part_over (a b : Int) (w : World) (ha : 0 ≤ a) (hb : 0 ≤ b) (ha' : a ≤ 9223372036854775807) (hb' : b ≤ 9223372036854775807) (h : 9223372036854775807 < parQ a b) : Calls Try.prog 16 #[.int .i64 a, .int .i64 b] w (Ans 0 5 w) := by
  go_enter Try.func16, Try.ntmps16
  go_wp2_with fail
  refine (divided_over _ _ _ ha hb ha' hb' h).mono ?_
  rintro e1 w1 ⟨rfl, hk⟩
  go_wp2_with fail
  go_ret2
  exact ⟨rfl, hk⟩
theorem part_ok (a b : Int) (w : World) (ha : 0 ≤ a) (hb : 0 ≤ b) (ha' : a ≤ 9223372036854775807) (hb' : b ≤ 9223372036854775807) (h : parQ a b ≤ 9223372036854775807) : Calls Try.prog 16 #[.int .i64 a, .int .i64 b] w (Ans (parQ a b) 0 w) := by
  go_enter Try.func16, Try.ntmps16
  go_wp2_with fail
  refine (divided_ok _ _ _ ha hb ha' hb' h).mono ?_
  rintro e1 w1 ⟨rfl, hk⟩
  go_wp2_with fail
  go_ret2
  exact ⟨rfl, hk⟩
theorem up_arg (a b : Int) (w : World) (h : a < 0 ∨ b < 0) : Calls Try.prog 18 #[.int .i64 a, .int .i64 b] w (Ans 0 1 w) := by
  go_enter Try.func18, Try.ntmps18
  go_wp2_with fail
  refine (divided_arg _ _ _ h).mono ?_
  rintro e1 w1 ⟨rfl, hk⟩
  go_wp2_with fail
  go_ret2
  exact ⟨rfl, hk⟩
theorem up_over (a b : Int) (w : World) (ha : 0 ≤ a) (hb : 0 ≤ b) (ha' : a ≤ 9223372036854775807) (hb' : b ≤ 9223372036854775807) (h : 9223372036854775807 < parQ a b) : Calls Try.prog 18 #[.int .i64 a, .int .i64 b] w (Ans 0 5 w) := by
  go_enter Try.func18, Try.ntmps18
  go_wp2_with fail
  refine (divided_over _ _ _ ha hb ha' hb' h).mono ?_
  rintro e1 w1 ⟨rfl, hk⟩
  go_wp2_with fail
  go_ret2
  exact ⟨rfl, hk⟩
theorem up_whole (a b : Int) (w : World) (ha : 0 ≤ a) (hb : 0 ≤ b) (ha' : a ≤ 9223372036854775807) (hb' : b ≤ 9223372036854775807) (h : parQ a b ≤ 9223372036854775807) (hr : parR a b ≤ 0) : Calls Try.prog 18 #[.int .i64 a, .int .i64 b] w (Ans (parQ a b) 0 w) := by
  have q1 := (parR_bd a b).1
  have q2 := (parR_bd a b).2
  go_enter Try.func18, Try.ntmps18
  go_wp2_with fail
  refine (divided_ok _ _ _ ha hb ha' hb' h).mono ?_
  rintro e1 w1 ⟨rfl, hk⟩
  go_wp2_with fail
  go_ret2
  exact ⟨rfl, hk⟩
theorem up_one (a b : Int) (w : World) (ha : 0 ≤ a) (hb : 0 ≤ b) (ha' : a ≤ 9223372036854775807) (hb' : b ≤ 9223372036854775807) (h : parQ a b + 1 ≤ 9223372036854775807) (hr : 1 ≤ parR a b) : Calls Try.prog 18 #[.int .i64 a, .int .i64 b] w (Ans (parQ a b + 1) 0 w) := by
  have q0 := parQ_nonneg ha hb
  have q1 := (parR_bd a b).1
  have q2 := (parR_bd a b).2
  go_enter Try.func18, Try.ntmps18
  go_wp2_with fail
  refine (divided_ok _ _ _ ha hb ha' hb' (by omega)).mono ?_
  rintro e1 w1 ⟨rfl, hk⟩
  go_wp2_with fail
  refine (add_ok _ _ _ q0 (by omega) h).mono ?_
  rintro e2 w2 ⟨rfl, rfl⟩
  go_wp2_with fail
  go_ret2
  exact ⟨rfl, hk⟩
theorem up_most (a b : Int) (w : World) (ha : 0 ≤ a) (hb : 0 ≤ b) (ha' : a ≤ 9223372036854775807) (hb' : b ≤ 9223372036854775807) (h : parQ a b = 9223372036854775807) (hr : 1 ≤ parR a b) : Calls Try.prog 18 #[.int .i64 a, .int .i64 b] w (Ans 0 5 w) := by
  have h3 : 9223372036854775807 < parQ a b + 1 := by omega
  have h4 : parQ a b ≤ 9223372036854775807 := by omega
  clear h
  have q0 := parQ_nonneg ha hb
  have q1 := (parR_bd a b).1
  have q2 := (parR_bd a b).2
  go_enter Try.func18, Try.ntmps18
  go_wp2_with fail
  refine (divided_ok _ _ _ ha hb ha' hb' h4).mono ?_
  rintro e1 w1 ⟨rfl, hk⟩
  go_wp2_with fail
  refine (add_over _ _ _ q0 (by omega) (by omega) h3).mono ?_
  rintro e2 w2 ⟨rfl, rfl⟩
  go_wp2_with fail
  go_ret2
  exact ⟨rfl, hk⟩
theorem rpart_arg (a b : Int) (w : World) (h : a < 0 ∨ b < 0) : Calls Try.prog 17 #[.int .i64 a, .int .i64 b] w (Ans 0 1 w) := by
  go_enter Try.func17, Try.ntmps17
  go_wp2_with fail
  refine (rdivd_arg _ _ _ h).mono ?_
  rintro e1 w1 ⟨rfl, hk⟩
  go_wp2_with fail
  go_ret2
  exact ⟨rfl, hk⟩
theorem rpart_over (a b : Int) (w : World) (ha : 0 ≤ a) (hb : 0 ≤ b) (ha' : a ≤ 9223372036854775807) (hb' : b ≤ 9223372036854775807) (h : 9223372036854775807 < parQ a b) : Calls Try.prog 17 #[.int .i64 a, .int .i64 b] w (Ans 0 5 w) := by
  go_enter Try.func17, Try.ntmps17
  go_wp2_with fail
  refine (rdivd_over _ _ _ ha hb ha' hb' h).mono ?_
  rintro e1 w1 ⟨rfl, hk⟩
  go_wp2_with fail
  go_ret2
  exact ⟨rfl, hk⟩
theorem rpart_ok (a b : Int) (w : World) (ha : 0 ≤ a) (hb : 0 ≤ b) (ha' : a ≤ 9223372036854775807) (hb' : b ≤ 9223372036854775807) (h : parQ a b ≤ 9223372036854775807) : Calls Try.prog 17 #[.int .i64 a, .int .i64 b] w (Ans (parQ a b) 0 w) := by
  go_enter Try.func17, Try.ntmps17
  go_wp2_with fail
  refine (rdivd_ok _ _ _ ha hb ha' hb' h).mono ?_
  rintro e1 w1 ⟨rfl, hk⟩
  go_wp2_with fail
  go_ret2
  exact ⟨rfl, hk⟩
theorem rup_arg (a b : Int) (w : World) (h : a < 0 ∨ b < 0) : Calls Try.prog 19 #[.int .i64 a, .int .i64 b] w (Ans 0 1 w) := by
  go_enter Try.func19, Try.ntmps19
  go_wp2_with fail
  refine (rdivd_arg _ _ _ h).mono ?_
  rintro e1 w1 ⟨rfl, hk⟩
  go_wp2_with fail
  go_ret2
  exact ⟨rfl, hk⟩
theorem rup_over (a b : Int) (w : World) (ha : 0 ≤ a) (hb : 0 ≤ b) (ha' : a ≤ 9223372036854775807) (hb' : b ≤ 9223372036854775807) (h : 9223372036854775807 < parQ a b) : Calls Try.prog 19 #[.int .i64 a, .int .i64 b] w (Ans 0 5 w) := by
  go_enter Try.func19, Try.ntmps19
  go_wp2_with fail
  refine (rdivd_over _ _ _ ha hb ha' hb' h).mono ?_
  rintro e1 w1 ⟨rfl, hk⟩
  go_wp2_with fail
  go_ret2
  exact ⟨rfl, hk⟩
theorem rup_whole (a b : Int) (w : World) (ha : 0 ≤ a) (hb : 0 ≤ b) (ha' : a ≤ 9223372036854775807) (hb' : b ≤ 9223372036854775807) (h : parQ a b ≤ 9223372036854775807) (hr : parR a b ≤ 0) : Calls Try.prog 19 #[.int .i64 a, .int .i64 b] w (Ans (parQ a b) 0 w) := by
  have q1 := (parR_bd a b).1
  have q2 := (parR_bd a b).2
  go_enter Try.func19, Try.ntmps19
  go_wp2_with fail
  refine (rdivd_ok _ _ _ ha hb ha' hb' h).mono ?_
  rintro e1 w1 ⟨rfl, hk⟩
  go_wp2_with fail
  go_ret2
  exact ⟨rfl, hk⟩
theorem rup_one (a b : Int) (w : World) (ha : 0 ≤ a) (hb : 0 ≤ b) (ha' : a ≤ 9223372036854775807) (hb' : b ≤ 9223372036854775807) (h : parQ a b + 1 ≤ 9223372036854775807) (hr : 1 ≤ parR a b) : Calls Try.prog 19 #[.int .i64 a, .int .i64 b] w (Ans (parQ a b + 1) 0 w) := by
  have q0 := parQ_nonneg ha hb
  have q1 := (parR_bd a b).1
  have q2 := (parR_bd a b).2
  go_enter Try.func19, Try.ntmps19
  go_wp2_with fail
  refine (rdivd_ok _ _ _ ha hb ha' hb' (by omega)).mono ?_
  rintro e1 w1 ⟨rfl, hk⟩
  go_wp2_with fail
  refine (radd_ok _ _ _ q0 (by omega) h).mono ?_
  rintro e2 w2 ⟨rfl, rfl⟩
  go_wp2_with fail
  go_ret2
  exact ⟨rfl, hk⟩
theorem rup_most (a b : Int) (w : World) (ha : 0 ≤ a) (hb : 0 ≤ b) (ha' : a ≤ 9223372036854775807) (hb' : b ≤ 9223372036854775807) (h : parQ a b = 9223372036854775807) (hr : 1 ≤ parR a b) : Calls Try.prog 19 #[.int .i64 a, .int .i64 b] w (Ans 0 5 w) := by
  have h3 : 9223372036854775807 < parQ a b + 1 := by omega
  have h4 : parQ a b ≤ 9223372036854775807 := by omega
  clear h
  have q0 := parQ_nonneg ha hb
  have q1 := (parR_bd a b).1
  have q2 := (parR_bd a b).2
  go_enter Try.func19, Try.ntmps19
  go_wp2_with fail
  refine (rdivd_ok _ _ _ ha hb ha' hb' h4).mono ?_
  rintro e1 w1 ⟨rfl, hk⟩
  go_wp2_with fail
  refine (radd_over _ _ _ q0 (by omega) (by omega) h3).mono ?_
  rintro e2 w2 ⟨rfl, rfl⟩
  go_wp2_with fail
  go_ret2
  exact ⟨rfl, hk⟩

end Go.Proofs.Ytocidfnfoaapcaa
