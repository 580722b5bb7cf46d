/- The statements' own first look at package qty: it answers true. -/
import Derived.Test.YtocidfnfoaapcaaQtyUp
import Derived.Test.YtocidfnfoaapcaaQtySumD
namespace Go.Proofs.Ytocidfnfoaapcaa
open Go.RowKit
set_option linter.unusedVariables false

theorem part_k1 (w : World) : Calls Try.prog 16 #[.int .i64 2001, .int .i64 500] w (Ans 1000 0 w) := part_ok 2001 500 w (by omega) (by omega) (by omega) (by omega) (by decide)
theorem part_k2 (w : World) : Calls Try.prog 18 #[.int .i64 2001, .int .i64 500] w (Ans 1001 0 w) := up_one 2001 500 w (by omega) (by omega) (by omega) (by omega) (by decide) (by decide)
theorem part_k3 (w : World) : Calls Try.prog 16 #[.int .i64 9223372036854775807, .int .i64 1000] w (Ans 9223372036854775807 0 w) := part_ok 9223372036854775807 1000 w (by omega) (by omega) (by omega) (by omega) (by decide)

theorem row_three (w : World) (t : TypeId) : Row (w.alloc (.cells #[.int .i64 1, .int .i64 2, .int .i64 3] t)) (some ⟨w.heap.size, 0, none⟩) 3 (fun i => (i : Int) + 1) := by
  refine ⟨by decide, fun i hi => by dsimp only; omega, Or.inr ⟨w.heap.size, 0, rfl, by simp, fun i hi => ?_⟩⟩
  match i, hi with
  | 0, _ => simp [go_sem]
  | 1, _ => simp [go_sem]
  | 2, _ => simp [go_sem]
  | n + 3, h => omega

theorem sum_k (w : World) (t : TypeId) : Calls Try.prog 20 #[.slice (some ⟨w.heap.size, 0, none⟩) 3 3] (w.alloc (.cells #[.int .i64 1, .int .i64 2, .int .i64 3] t)) (Ans 6 0 (w.alloc (.cells #[.int .i64 1, .int .i64 2, .int .i64 3] t))) :=
  sum_ok _ 3 3 (fun i => (i : Int) + 1) _ (row_three w t) (fun i hi => by omega) (by decide)

theorem Kept.one (w : World) (c : Array Value) (t : TypeId) : Kept w (w.alloc (.cells c t)) := (Below.refl _ _).alloc (Nat.le_refl _) _

set_option maxHeartbeats 400000 in
theorem known_any (w : World) : Calls Try.prog 9 #[] w fun e w' => e = .returned (.bool true) ∧ Kept w w' := by
  go_enter Try.func9, Try.ntmps9
  go_wp2_with fail
  refine (add_ok 3 4 _ (by omega) (by omega) (by omega)).mono ?_
  rintro e1 w1 ⟨rfl, rfl⟩
  go_wp2_with fail
  refine (add_over 9223372036854775807 1 _ (by omega) (by omega) (by omega) (by omega)).mono ?_
  rintro e1 w1 ⟨rfl, rfl⟩
  go_wp2_with fail
  refine (sub_over 3 4 _ (by omega) (by omega) (by omega)).mono ?_
  rintro e1 w1 ⟨rfl, rfl⟩
  go_wp2_with fail
  refine (mul_arg (-1) 2 _ (by omega)).mono ?_
  rintro e1 w1 ⟨rfl, rfl⟩
  go_wp2_with fail
  refine (part_k1 _).mono ?_
  rintro e1 w1 ⟨rfl, hk1⟩
  go_wp2_with fail
  refine (part_k2 _).mono ?_
  rintro e1 w2 ⟨rfl, hk2⟩
  go_wp2_with fail
  refine (sum_k _ _).mono ?_
  rintro e1 w3 ⟨rfl, hk3⟩
  go_wp2_with fail
  refine (part_k3 _).mono ?_
  rintro e1 w4 ⟨rfl, hk4⟩
  go_wp2_with fail
  go_ret
  exact ⟨rfl, hk1.trans (hk2.trans ((Kept.one _ _ _).trans (hk3.trans hk4)))⟩

end Go.Proofs.Ytocidfnfoaapcaa
