/- QtyBack: what is added is taken away again; a part and the rest's part are the whole. -/
import Derived.Test.YtocidfnfoaapcaaQtyKnown
import Derived.OpenShut
namespace Go.Proofs.Ytocidfnfoaapcaa
open Go.RowKit
set_option linter.unusedVariables false

/-- A part, rounded up. -/
def upQ (a p : Int) : Int := (a * p + 999) / 1000
theorem up_small (a p : Int) (w : World) (ha : 0 ≤ a) (hp : 0 ≤ p) (ha' : a ≤ 4294967295) (hp' : p ≤ 1000) : Calls Try.prog 18 #[.int .i64 a, .int .i64 p] w (Ans (upQ a p) 0 w) := by
  have h0 := mul_nonneg' ha hp
  have h1 : a * p ≤ 4294967295 * 1000 := Int.mul_le_mul ha' hp' hp (by omega)
  by_cases r : parR a p ≤ 0
  · have e : upQ a p = parQ a p := by unfold upQ parQ; unfold parR at r; omega
    rw [e]
    exact up_whole a p w ha hp (by omega) (by omega) (by unfold parQ; omega) r
  · have e : upQ a p = parQ a p + 1 := by unfold upQ parQ; unfold parR at r; omega
    rw [e]
    exact up_one a p w ha hp (by omega) (by omega) (by unfold parQ; omega) (by omega)

set_option maxHeartbeats 400000 in
theorem qtyBack_walk (a b c : Int) (w0 : (Lit.int .u32 a).wf = true) (w1 : (Lit.int .u32 b).wf = true) (w2 : (Lit.int .u16 c).wf = true) (w : World) :
    Calls Try.prog 5 #[.int .u32 a, .int .u32 b, .int .u16 c] w fun e w' => e = .returned (.bool true) ∧ Below w.heap.size w w' := by
  obtain ⟨a0, a1⟩ := bounds_u32 w0
  obtain ⟨b0, b1⟩ := bounds_u32 w1
  obtain ⟨c0, c1⟩ := bounds_u16 w2
  clear w0 w1 w2
  obtain ⟨z, hz⟩ : ∃ z, c % 1001 = z := ⟨_, rfl⟩
  have z0 : 0 ≤ z := by omega
  have z1 : z ≤ 1000 := by omega
  have n0 : 0 ≤ a * z := mul_nonneg' a0 z0
  have n1 : a * z ≤ 4294967295 * 1000 := Int.mul_le_mul a1 z1 z0 (by omega)
  have e : a * (1000 - z) = 1000 * a - a * z := by rw [Int.mul_sub, Int.mul_comm a 1000]
  have n2 : a * z ≤ 1000 * a := by
    have := mul_nonneg' a0 (show 0 ≤ 1000 - z by omega)
    omega
  have q0 : parQ a z ≤ upQ a z := by unfold parQ upQ; omega
  have q1 : upQ a z - parQ a z ≤ 1 := by unfold parQ upQ; omega
  have q2 : upQ a z ≤ a := by unfold upQ; omega
  have q3 : 0 ≤ parQ a z := by unfold parQ; omega
  have q4 : (parQ a z + upQ a (1000 - z) == a) = true := by simp; unfold parQ upQ; rw [e]; omega
  have q5 : 1000 * parQ a z ≤ a * z := by unfold parQ; omega
  have q6 : a * z < 1000 * parQ a z + 1000 := by unfold parQ; omega
  have q7 : 0 ≤ upQ a (1000 - z) := by unfold upQ; rw [e]; omega
  have q8 : upQ a (1000 - z) ≤ a := by unfold upQ; rw [e]; omega
  clear e n2
  go_enter Try.func5, Try.ntmps5
  go_wp2_with fail
  refine (known_any _).mono ?_
  rintro e1 y ⟨rfl, hk⟩
  go_wp2_with fail
  refine (add_ok _ _ _ a0 b0 (by omega)).mono ?_
  rintro e1 y1 ⟨rfl, rfl⟩
  go_wp2_with fail
  refine (sub_ok _ _ _ b0 (by omega) (by omega)).mono ?_
  rintro e1 y1 ⟨rfl, rfl⟩
  go_wp2_with fail
  refine (part_ok _ _ _ a0 z0 (by omega) (by omega) (by omega)).mono ?_
  rintro e1 y2 ⟨rfl, hk2⟩
  go_wp2_with fail
  refine (up_small _ _ _ a0 z0 a1 z1).mono ?_
  rintro e1 y3 ⟨rfl, hk3⟩
  go_wp2_with fail
  refine (up_small _ _ _ a0 (by omega) a1 (by omega)).mono ?_
  rintro e1 y4 ⟨rfl, hk4⟩
  go_wp2_with fail
  go_ret
  exact ⟨rfl, hk.trans (hk2.trans (hk3.trans hk4))⟩

end Go.Proofs.Ytocidfnfoaapcaa
