/- QtyTwo: any two numbers: package qty answers as the reference does. -/
import Derived.Test.YtocidfnfoaapcaaQtyKnown
import Derived.OpenShut
namespace Go.Proofs.Ytocidfnfoaapcaa
open Go.RowKit
set_option linter.unusedVariables false

/-- Two calls answer alike, whatever the world. -/
def Same (f g : Nat) (args : Array Value) : Prop :=
  ∃ v x : Int, 0 ≤ x ∧ x ≤ 17 ∧ (∀ w, Calls Try.prog f args w (Ans v x w)) ∧ (∀ w, Calls Try.prog g args w (Ans v x w))
theorem pure_ans {f : Nat} {args : Array Value} {v x : Int} {w : World} (h : Calls Try.prog f args w (Pure2 v x w)) : Calls Try.prog f args w (Ans v x w) := h.mono fun _ _ k => k.ans

section
variable (a b : Int) (a0 : -9223372036854775808 ≤ a) (a1 : a ≤ 9223372036854775807) (b0 : -9223372036854775808 ≤ b) (b1 : b ≤ 9223372036854775807)
include a0 a1 b0 b1
theorem add_same : Same 10 11 #[.int .i64 a, .int .i64 b] := by
  by_cases h : a < 0 ∨ b < 0
  · exact ⟨0, 1, by omega, by omega, fun w => pure_ans (add_arg a b w h), fun w => pure_ans (radd_arg a b w h)⟩
  · have ha : 0 ≤ a := by omega
    have hb : 0 ≤ b := by omega
    by_cases g : 9223372036854775807 < a + b
    · exact ⟨0, 5, by omega, by omega, fun w => pure_ans (add_over a b w ha hb b1 g), fun w => pure_ans (radd_over a b w ha hb b1 g)⟩
    · have g' : a + b ≤ 9223372036854775807 := by omega
      exact ⟨a + b, 0, by omega, by omega, fun w => pure_ans (add_ok a b w ha hb g'), fun w => pure_ans (radd_ok a b w ha hb g')⟩
theorem sub_same : Same 12 13 #[.int .i64 a, .int .i64 b] := by
  by_cases h : a < 0 ∨ b < 0
  · exact ⟨0, 1, by omega, by omega, fun w => pure_ans (sub_arg a b w h), fun w => pure_ans (rsub_arg a b w h)⟩
  · have ha : 0 ≤ a := by omega
    have hb : 0 ≤ b := by omega
    by_cases g : a < b
    · exact ⟨0, 5, by omega, by omega, fun w => pure_ans (sub_over a b w ha b1 g), fun w => pure_ans (rsub_over a b w ha b1 g)⟩
    · have g' : b ≤ a := by omega
      exact ⟨a - b, 0, by omega, by omega, fun w => pure_ans (sub_ok a b w hb a1 g'), fun w => pure_ans (rsub_ok a b w hb a1 g')⟩
theorem mul_same : Same 14 15 #[.int .i64 a, .int .i64 b] := by
  by_cases h : a < 0 ∨ b < 0
  · exact ⟨0, 1, by omega, by omega, fun w => pure_ans (mul_arg a b w h), fun w => pure_ans (rmul_arg a b w h)⟩
  · have ha : 0 ≤ a := by omega
    have hb : 0 ≤ b := by omega
    by_cases g : 9223372036854775807 < a * b
    · exact ⟨0, 5, by omega, by omega, fun w => pure_ans (mul_over a b w ha hb a1 b1 g), fun w => pure_ans (rmul_over a b w ha hb a1 b1 g)⟩
    · have g' : a * b ≤ 9223372036854775807 := by omega
      exact ⟨a * b, 0, by omega, by omega, fun w => pure_ans (mul_ok a b w ha hb a1 b1 g'), fun w => pure_ans (rmul_ok a b w ha hb a1 b1 g')⟩
theorem part_same : Same 16 17 #[.int .i64 a, .int .i64 b] := by
  by_cases h : a < 0 ∨ b < 0
  · exact ⟨0, 1, by omega, by omega, fun w => part_arg a b w h, fun w => rpart_arg a b w h⟩
  · have ha : 0 ≤ a := by omega
    have hb : 0 ≤ b := by omega
    by_cases g : 9223372036854775807 < parQ a b
    · exact ⟨0, 5, by omega, by omega, fun w => part_over a b w ha hb a1 b1 g, fun w => rpart_over a b w ha hb a1 b1 g⟩
    · have g' : parQ a b ≤ 9223372036854775807 := by omega
      exact ⟨parQ a b, 0, by omega, by omega, fun w => part_ok a b w ha hb a1 b1 g', fun w => rpart_ok a b w ha hb a1 b1 g'⟩
theorem partup_same : Same 18 19 #[.int .i64 a, .int .i64 b] := by
  by_cases h : a < 0 ∨ b < 0
  · exact ⟨0, 1, by omega, by omega, fun w => up_arg a b w h, fun w => rup_arg a b w h⟩
  · have ha : 0 ≤ a := by omega
    have hb : 0 ≤ b := by omega
    by_cases g : 9223372036854775807 < parQ a b
    · exact ⟨0, 5, by omega, by omega, fun w => up_over a b w ha hb a1 b1 g, fun w => rup_over a b w ha hb a1 b1 g⟩
    · have g' : parQ a b ≤ 9223372036854775807 := by omega
      by_cases r : parR a b ≤ 0
      · exact ⟨parQ a b, 0, by omega, by omega, fun w => up_whole a b w ha hb a1 b1 g' r, fun w => rup_whole a b w ha hb a1 b1 g' r⟩
      · have r' : 1 ≤ parR a b := by omega
        by_cases m : parQ a b + 1 ≤ 9223372036854775807
        · exact ⟨parQ a b + 1, 0, by omega, by omega, fun w => up_one a b w ha hb a1 b1 m r', fun w => rup_one a b w ha hb a1 b1 m r'⟩
        · have m' : parQ a b = 9223372036854775807 := by omega
          exact ⟨0, 5, by omega, by omega, fun w => up_most a b w ha hb a1 b1 m' r', fun w => rup_most a b w ha hb a1 b1 m' r'⟩
end

set_option maxHeartbeats 400000 in
theorem qtyTwo_walk (a b : Int) (w0 : (Lit.int .i64 a).wf = true) (w1 : (Lit.int .i64 b).wf = true) (w : World) :
    Calls Try.prog 3 #[.int .i64 a, .int .i64 b] w fun e w' => e = .returned (.bool true) ∧ Below w.heap.size w w' := by
  obtain ⟨a0, a1⟩ := bounds_i64 w0
  obtain ⟨b0, b1⟩ := bounds_i64 w1
  clear w0 w1
  obtain ⟨v0, x0, l0, u0, c0, d0⟩ := add_same a b a0 a1 b0 b1
  have C0 := Lib.hid c0
  have D0 := Lib.hid d0
  clear c0 d0
  obtain ⟨v1, x1, l1, u1, c1, d1⟩ := sub_same a b a0 a1 b0 b1
  have C1 := Lib.hid c1
  have D1 := Lib.hid d1
  clear c1 d1
  obtain ⟨v2, x2, l2, u2, c2, d2⟩ := mul_same a b a0 a1 b0 b1
  have C2 := Lib.hid c2
  have D2 := Lib.hid d2
  clear c2 d2
  obtain ⟨v3, x3, l3, u3, c3, d3⟩ := part_same a b a0 a1 b0 b1
  have C3 := Lib.hid c3
  have D3 := Lib.hid d3
  clear c3 d3
  obtain ⟨v4, x4, l4, u4, c4, d4⟩ := partup_same a b a0 a1 b0 b1
  have C4 := Lib.hid c4
  have D4 := Lib.hid d4
  clear c4 d4
  go_enter Try.func3, Try.ntmps3
  go_wp2_with fail
  refine (known_any _).mono ?_
  rintro e1 y ⟨rfl, hk⟩
  go_wp2_with fail
  refine (C0.out _).mono ?_
  rintro e1 yC0 ⟨rfl, hkC0⟩
  go_wp2_with fail
  refine (D0.out _).mono ?_
  rintro e1 yD0 ⟨rfl, hkD0⟩
  go_wp2_with fail
  refine (C1.out _).mono ?_
  rintro e1 yC1 ⟨rfl, hkC1⟩
  go_wp2_with fail
  refine (D1.out _).mono ?_
  rintro e1 yD1 ⟨rfl, hkD1⟩
  go_wp2_with fail
  refine (C2.out _).mono ?_
  rintro e1 yC2 ⟨rfl, hkC2⟩
  go_wp2_with fail
  refine (D2.out _).mono ?_
  rintro e1 yD2 ⟨rfl, hkD2⟩
  go_wp2_with fail
  refine (C3.out _).mono ?_
  rintro e1 yC3 ⟨rfl, hkC3⟩
  go_wp2_with fail
  refine (D3.out _).mono ?_
  rintro e1 yD3 ⟨rfl, hkD3⟩
  go_wp2_with fail
  refine (C4.out _).mono ?_
  rintro e1 yC4 ⟨rfl, hkC4⟩
  go_wp2_with fail
  refine (D4.out _).mono ?_
  rintro e1 yD4 ⟨rfl, hkD4⟩
  go_wp2_with fail
  go_ret
  exact ⟨rfl, hk.trans (hkC0.trans (hkD0.trans (hkC1.trans (hkD1.trans (hkC2.trans (hkD2.trans (hkC3.trans (hkD3.trans (hkC4.trans hkD4)))))))))⟩

end Go.Proofs.Ytocidfnfoaapcaa
