/- QtyParts: a part of a part is no more than the part of both; parts rise with the whole and with the part. -/
import Derived.Test.YtocidfnfoaapcaaQtyBack
namespace Go.Proofs.Ytocidfnfoaapcaa
open Go.RowKit
set_option linter.unusedVariables false

theorem parts_facts (x y m n : Int) (x0 : 0 ≤ x) (xy : x ≤ y) (y1 : y ≤ 4294967295) (m0 : 0 ≤ m) (mn : m ≤ n) (n1 : n ≤ 1000) :
    parQ x m ≤ parQ y m ∧ parQ y m ≤ parQ y n ∧ parQ (parQ y n) m ≤ parQ y m ∧ 1000 * parQ (parQ y n) m ≤ parQ y n * m ∧ parQ x m ≤ upQ x m ∧ x * m ≤ 1000 * upQ x m ∧
      0 ≤ parQ x m ∧ 0 ≤ parQ y n ∧ parQ y n ≤ 4294967295 ∧ 0 ≤ parQ (parQ y n) m ∧ 0 ≤ x * m ∧ x * m ≤ 4294967295000 ∧ 0 ≤ parQ y n * m ∧ parQ y n * m ≤ 4294967295000 ∧ upQ x m ≤ 4294967296 := by
  have a0 : 0 ≤ x * m := mul_nonneg' x0 m0
  have a1 : x * m ≤ y * m := Int.mul_le_mul_of_nonneg_right xy m0
  have a2 : y * m ≤ y * n := Int.mul_le_mul_of_nonneg_left mn (by omega)
  have a3 : y * n ≤ 4294967295 * 1000 := Int.mul_le_mul y1 n1 (by omega) (by omega)
  have a4 : y * n ≤ y * 1000 := Int.mul_le_mul_of_nonneg_left n1 (by omega)
  have b0 : 0 ≤ parQ y n := by unfold parQ; omega
  have b1 : parQ y n ≤ y := by unfold parQ; omega
  have b2 : parQ y n * m ≤ y * m := Int.mul_le_mul_of_nonneg_right b1 m0
  have b3 : 0 ≤ parQ y n * m := mul_nonneg' b0 m0
  have c1 : parQ x m = x * m / 1000 := rfl
  have c2 : parQ y m = y * m / 1000 := rfl
  have c3 : parQ y n = y * n / 1000 := rfl
  have c4 : parQ (parQ y n) m = parQ y n * m / 1000 := rfl
  have c5 : upQ x m = (x * m + 999) / 1000 := rfl
  generalize parQ (parQ y n) m = v at *
  generalize parQ y n * m = um at *
  generalize parQ y n = u at *
  generalize parQ y m = t at *
  generalize parQ x m = s at *
  generalize upQ x m = r at *
  generalize x * m = xm at *
  generalize y * m = ym at *
  generalize y * n = yn at *
  refine ⟨?_, ?_, ?_, ?_, ?_, ?_, ?_, ?_, ?_, ?_, ?_, ?_, ?_, ?_, ?_⟩ <;> omega

set_option maxHeartbeats 400000 in
theorem qtyParts_walk (a b p q : Int) (w0 : (Lit.int .u32 a).wf = true) (w1 : (Lit.int .u32 b).wf = true) (w2 : (Lit.int .u16 p).wf = true) (w3 : (Lit.int .u16 q).wf = true) (w : World) :
    Calls Try.prog 8 #[.int .u32 a, .int .u32 b, .int .u16 p, .int .u16 q] w fun e w' => e = .returned (.bool true) ∧ Below w.heap.size w w' := by
  obtain ⟨a0, a1⟩ := bounds_u32 w0
  obtain ⟨b0, b1⟩ := bounds_u32 w1
  obtain ⟨p0, p1⟩ := bounds_u16 w2
  obtain ⟨q0, q1⟩ := bounds_u16 w3
  clear w0 w1 w2 w3
  obtain ⟨x, hx⟩ : ∃ x, min a b = x := ⟨_, rfl⟩
  obtain ⟨y, hy⟩ : ∃ y, max a b = y := ⟨_, rfl⟩
  obtain ⟨i, hi⟩ : ∃ i, min p q % 1001 = i := ⟨_, rfl⟩
  obtain ⟨j, hj⟩ : ∃ j, max p q % 1001 = j := ⟨_, rfl⟩
  have x0 : 0 ≤ x := by omega
  have xy : x ≤ y := by omega
  have y1 : y ≤ 4294967295 := by omega
  have i0 : 0 ≤ i := by omega
  have i1 : i ≤ 1000 := by omega
  have j0 : 0 ≤ j := by omega
  have j1 : j ≤ 1000 := by omega
  have y0 : 0 ≤ y := by omega
  have x1 : x ≤ 4294967295 := by omega
  by_cases c : j < i
  · have c' : j ≤ i := by omega
    obtain ⟨f1, f2, f3, f4, f5, f6, f7, f8, f9, g1, g2, g3, g4, g5, g6⟩ := parts_facts x y j i x0 xy y1 j0 c' i1
    go_enter Try.func8, Try.ntmps8
    go_wp2_with fail
    refine (known_any _).mono ?_
    rintro e1 z ⟨rfl, hk⟩
    go_wp2_with fail
    refine (part_ok _ _ _ x0 j0 (by omega) (by omega) (by omega)).mono ?_
    rintro e1 z0 ⟨rfl, hk0⟩
    go_wp2_with fail
    refine (part_ok _ _ _ y0 j0 (by omega) (by omega) (by omega)).mono ?_
    rintro e1 z1 ⟨rfl, hk1⟩
    go_wp2_with fail
    refine (part_ok _ _ _ y0 i0 (by omega) (by omega) (by omega)).mono ?_
    rintro e1 z2 ⟨rfl, hk2⟩
    go_wp2_with fail
    refine (part_ok _ _ _ f8 j0 (by omega) (by omega) (by omega)).mono ?_
    rintro e1 z3 ⟨rfl, hk3⟩
    go_wp2_with fail
    refine (up_small _ _ _ x0 j0 x1 j1).mono ?_
    rintro e1 z4 ⟨rfl, hk4⟩
    go_wp2_with fail
    go_ret
    exact ⟨rfl, hk.trans (hk0.trans (hk1.trans (hk2.trans (hk3.trans hk4))))⟩
  · have c' : i ≤ j := by omega
    obtain ⟨f1, f2, f3, f4, f5, f6, f7, f8, f9, g1, g2, g3, g4, g5, g6⟩ := parts_facts x y i j x0 xy y1 i0 c' j1
    go_enter Try.func8, Try.ntmps8
    go_wp2_with fail
    refine (known_any _).mono ?_
    rintro e1 z ⟨rfl, hk⟩
    go_wp2_with fail
    refine (part_ok _ _ _ x0 i0 (by omega) (by omega) (by omega)).mono ?_
    rintro e1 z0 ⟨rfl, hk0⟩
    go_wp2_with fail
    refine (part_ok _ _ _ y0 i0 (by omega) (by omega) (by omega)).mono ?_
    rintro e1 z1 ⟨rfl, hk1⟩
    go_wp2_with fail
    refine (part_ok _ _ _ y0 j0 (by omega) (by omega) (by omega)).mono ?_
    rintro e1 z2 ⟨rfl, hk2⟩
    go_wp2_with fail
    refine (part_ok _ _ _ f8 i0 (by omega) (by omega) (by omega)).mono ?_
    rintro e1 z3 ⟨rfl, hk3⟩
    go_wp2_with fail
    refine (up_small _ _ _ x0 i0 x1 i1).mono ?_
    rintro e1 z4 ⟨rfl, hk4⟩
    go_wp2_with fail
    go_ret
    exact ⟨rfl, hk.trans (hk0.trans (hk1.trans (hk2.trans (hk3.trans hk4))))⟩

end Go.Proofs.Ytocidfnfoaapcaa
