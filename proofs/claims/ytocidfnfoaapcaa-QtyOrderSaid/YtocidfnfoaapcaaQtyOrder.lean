/- QtyOrder: sums and products whichever is first; a product over a sum. -/
import Derived.Test.YtocidfnfoaapcaaQtyKnown
import Derived.OpenShut
namespace Go.Proofs.Ytocidfnfoaapcaa
open Go.RowKit
set_option linter.unusedVariables false

theorem row_two (w : World) (t : TypeId) (q r : Int) (q0 : 0 ≤ q) (r0 : 0 ≤ r) (h : q + r ≤ 9223372036854775807) :
    Row (w.alloc (.cells #[.int .i64 q, .int .i64 r] t)) (some ⟨w.heap.size, 0, none⟩) 2 (fun i => if i = 0 then q else r) := by
  refine ⟨by decide, fun i hi => by dsimp only; split <;> omega, Or.inr ⟨w.heap.size, 0, rfl, by simp, fun i hi => ?_⟩⟩
  match i, hi with
  | 0, _ => simp [go_sem]
  | 1, _ => simp [go_sem]
  | n + 2, h => omega

theorem sum_two (w : World) (t : TypeId) (q r : Int) (q0 : 0 ≤ q) (r0 : 0 ≤ r) (h : q + r ≤ 9223372036854775807) :
    Calls Try.prog 20 #[.slice (some ⟨w.heap.size, 0, none⟩) 2 2] (w.alloc (.cells #[.int .i64 q, .int .i64 r] t)) (Ans (q + r) 0 (w.alloc (.cells #[.int .i64 q, .int .i64 r] t))) := by
  have e : tot (fun i => if i = 0 then q else r) 2 = q + r := by simp [tot]
  have k := sum_ok (some ⟨w.heap.size, 0, none⟩) 2 2 (fun i => if i = 0 then q else r) _ (row_two w t q r q0 r0 h) (fun i hi => by split <;> omega) (by rw [e]; exact h)
  rw [e] at k
  exact k

set_option maxHeartbeats 400000 in
theorem qtyOrder_walk (a b c : Int) (w0 : (Lit.int .u32 a).wf = true) (w1 : (Lit.int .u32 b).wf = true) (w2 : (Lit.int .u16 c).wf = true) (w : World) :
    Calls Try.prog 6 #[.int .u32 a, .int .u32 b, .int .u16 c] w fun e w' => e = .returned (.bool true) ∧ Below w.heap.size w w' := by
  obtain ⟨a0, a1⟩ := bounds_u32 w0
  obtain ⟨b0, b1⟩ := bounds_u32 w1
  obtain ⟨c0, c1⟩ := bounds_u16 w2
  clear w0 w1 w2
  obtain ⟨z, hz⟩ : ∃ z, c % 1000 = z := ⟨_, rfl⟩
  have z0 : 0 ≤ z := by omega
  have z1 : z ≤ 999 := by omega
  have m0 : 0 ≤ (a + b) * z := mul_nonneg' (by omega) z0
  have m1 : (a + b) * z ≤ 8589934590 * 999 := Int.mul_le_mul (by omega) z1 z0 (by omega)
  have n0 : 0 ≤ a * z := mul_nonneg' a0 z0
  have n1 : a * z ≤ 4294967295 * 999 := Int.mul_le_mul a1 z1 z0 (by omega)
  have k0 : 0 ≤ z * b := mul_nonneg' z0 b0
  have k1 : z * b ≤ 999 * 4294967295 := Int.mul_le_mul z1 b1 b0 (by omega)
  have e : (a + b) * z = a * z + z * b := by rw [Int.add_mul, Int.mul_comm b z]
  have e1 : (a + b) * z ≤ a * z + z * b := by omega
  have e2 : a * z + z * b ≤ (a + b) * z := by omega
  clear e
  have s1 : (a + b == b + a) = true := by rw [Int.add_comm]; simp
  have s2 : ((a + b) * z == a * z + z * b) = true := by simp; omega
  go_enter Try.func6, Try.ntmps6
  go_wp2_with fail
  refine (known_any _).mono ?_
  rintro e1 y ⟨rfl, hk⟩
  go_wp2_with fail
  refine (add_ok _ _ _ a0 b0 (by omega)).mono ?_
  rintro e1 y1 ⟨rfl, rfl⟩
  go_wp2_with fail
  refine (add_ok _ _ _ b0 a0 (by omega)).mono ?_
  rintro e1 y1 ⟨rfl, rfl⟩
  go_wp2_with fail
  refine (mul_ok _ _ _ (by omega) z0 (by omega) (by omega) (by omega)).mono ?_
  rintro e1 y1 ⟨rfl, rfl⟩
  go_wp2_with fail
  refine (mul_ok _ _ _ a0 z0 (by omega) (by omega) (by omega)).mono ?_
  rintro e1 y1 ⟨rfl, rfl⟩
  go_wp2_with fail
  refine (mul_ok _ _ _ z0 b0 (by omega) (by omega) (by omega)).mono ?_
  rintro e1 y1 ⟨rfl, rfl⟩
  go_wp2_with fail
  refine (sum_two _ _ _ _ n0 k0 (by omega)).mono ?_
  rintro e1 y2 ⟨rfl, hk2⟩
  go_wp2_with fail
  go_ret
  exact ⟨rfl, hk.trans ((Kept.one _ _ _).trans hk2)⟩

end Go.Proofs.Ytocidfnfoaapcaa
