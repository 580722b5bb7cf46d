/- QtyEdges: at the greatest number. -/
import Derived.Test.YtocidfnfoaapcaaQtyKnown
import Derived.OpenShut
namespace Go.Proofs.Ytocidfnfoaapcaa
open Go.RowKit
set_option linter.unusedVariables false

set_option maxHeartbeats 400000 in
theorem qtyEdges_walk (a b : Int) (w0 : (Lit.int .u8 a).wf = true) (w1 : (Lit.int .u8 b).wf = true) (w : World) :
    Calls Try.prog 7 #[.int .u8 a, .int .u8 b] w fun e w' => e = .returned (.bool true) ∧ Below w.heap.size w w' := by
  obtain ⟨a0, a1⟩ := bounds_u8 w0
  obtain ⟨b0, b1⟩ := bounds_u8 w1
  clear w0 w1
  have p1 : parQ (9223372036854775807 - a) 1000 ≤ 9223372036854775807 := by unfold parQ; omega
  have p2 : parR (9223372036854775807 - a) 1000 ≤ 0 := by unfold parR; omega
  by_cases h : b ≤ a
  · by_cases g : b ≤ 0
    · have q : parQ 9223372036854775807 (1000 + b) ≤ 9223372036854775807 := by unfold parQ; omega
      go_enter Try.func7, Try.ntmps7
      go_wp2_with fail
      refine (known_any _).mono ?_
      rintro e1 y ⟨rfl, hk⟩
      go_wp2_with fail
      refine (add_ok _ _ _ (by omega) (by omega) (by omega)).mono ?_
      rintro e1 y1 ⟨rfl, rfl⟩
      go_wp2_with fail
      refine (sub_ok _ _ _ (by omega) (by omega) (by omega)).mono ?_
      rintro e1 y1 ⟨rfl, rfl⟩
      go_wp2_with fail
      refine (add_arg _ _ _ (by omega)).mono ?_
      rintro e1 y1 ⟨rfl, rfl⟩
      go_wp2_with fail
      refine (part_ok _ _ _ (by omega) (by omega) (by omega) (by omega) q).mono ?_
      rintro e1 y2 ⟨rfl, hk2⟩
      go_wp2_with fail
      refine (up_whole _ _ _ (by omega) (by omega) (by omega) (by omega) p1 p2).mono ?_
      rintro e1 y3 ⟨rfl, hk3⟩
      go_wp2_with fail
      go_ret
      exact ⟨rfl, hk.trans (hk2.trans hk3)⟩
    · have q : 9223372036854775807 < parQ 9223372036854775807 (1000 + b) := by unfold parQ; omega
      have gB : (b == 0) = false := by simp; omega
      go_enter Try.func7, Try.ntmps7
      go_wp2_with fail
      refine (known_any _).mono ?_
      rintro e1 y ⟨rfl, hk⟩
      go_wp2_with fail
      refine (add_ok _ _ _ (by omega) (by omega) (by omega)).mono ?_
      rintro e1 y1 ⟨rfl, rfl⟩
      go_wp2_with fail
      refine (sub_ok _ _ _ (by omega) (by omega) (by omega)).mono ?_
      rintro e1 y1 ⟨rfl, rfl⟩
      go_wp2_with fail
      refine (add_arg _ _ _ (by omega)).mono ?_
      rintro e1 y1 ⟨rfl, rfl⟩
      go_wp2_with fail
      refine (part_over _ _ _ (by omega) (by omega) (by omega) (by omega) q).mono ?_
      rintro e1 y2 ⟨rfl, hk2⟩
      go_wp2_with fail
      refine (up_whole _ _ _ (by omega) (by omega) (by omega) (by omega) p1 p2).mono ?_
      rintro e1 y3 ⟨rfl, hk3⟩
      go_wp2_with fail
      go_ret
      exact ⟨rfl, hk.trans (hk2.trans hk3)⟩
  · have q : 9223372036854775807 < parQ 9223372036854775807 (1000 + b) := by unfold parQ; omega
    have gB : (b == 0) = false := by simp; omega
    have hB : decide (b ≤ a) = false := by simp; omega
    go_enter Try.func7, Try.ntmps7
    go_wp2_with fail
    refine (known_any _).mono ?_
    rintro e1 y ⟨rfl, hk⟩
    go_wp2_with fail
    refine (add_over _ _ _ (by omega) (by omega) (by omega) (by omega)).mono ?_
    rintro e1 y1 ⟨rfl, rfl⟩
    go_wp2_with fail
    refine (sub_over _ _ _ (by omega) (by omega) (by omega)).mono ?_
    rintro e1 y1 ⟨rfl, rfl⟩
    go_wp2_with fail
    refine (add_arg _ _ _ (by omega)).mono ?_
    rintro e1 y1 ⟨rfl, rfl⟩
    go_wp2_with fail
    refine (part_over _ _ _ (by omega) (by omega) (by omega) (by omega) q).mono ?_
    rintro e1 y2 ⟨rfl, hk2⟩
    go_wp2_with fail
    refine (up_whole _ _ _ (by omega) (by omega) (by omega) (by omega) p1 p2).mono ?_
    rintro e1 y3 ⟨rfl, hk3⟩
    go_wp2_with fail
    go_ret
    exact ⟨rfl, hk.trans (hk2.trans hk3)⟩

end Go.Proofs.Ytocidfnfoaapcaa
