/- What the two Class and the two Compare answer: the same, told of the numbers' bits. -/
import Derived.Test.YthmpkelnmlkbiaaFltKey
namespace Go.Proofs.Ythmpkelnmlkbiaa
open Go.RowKit
set_option linter.unusedVariables false

/-- Nothing that was there has changed. -/
def Kept (w w' : World) : Prop := Below w.heap.size w w'
theorem Kept.refl (w : World) : Kept w w := Below.refl _ _
theorem Kept.trans {a b c : World} (h : Kept a b) (k : Kept b c) : Kept a c := Below.trans h (Below.mono k h.size)
theorem Kept.drewN (w : World) (n : Nat) : Kept w (w.drewN n) := below_drewN (Below.refl _ _) n
theorem Kept.one (w : World) (c : Array Value) (t : TypeId) : Kept w (w.alloc (.cells c t)) := (Below.refl _ _).alloc (Nat.le_refl _) _

theorem f64_order (x y : Nat) : FloatKind.f64.format.order x y = if isNaN x || isNaN y then none else some (ocmp (srung x) (srung y)) := order_eq x y

theorem ord_self (x : Nat) : (FloatKind.f64.format.order x x != some .eq) = isNaN x := by
  rw [f64_order]; cases isNaN x <;> simp [ocmp]
theorem ord_lt (x y : Nat) : (FloatKind.f64.format.order x y == some .lt) = (!isNaN x && !isNaN y && decide (srung x < srung y)) := by
  rw [f64_order]; unfold ocmp; cases isNaN x <;> cases isNaN y <;> simp <;> split <;> simp_all <;> first | omega | (split <;> simp_all <;> omega)
theorem ord_gt (x y : Nat) : (FloatKind.f64.format.order x y == some .gt) = (!isNaN x && !isNaN y && decide (srung y < srung x)) := by
  rw [f64_order]; unfold ocmp; cases isNaN x <;> cases isNaN y <;> simp <;> split <;> simp_all <;> first | omega | (split <;> simp_all <;> omega)
theorem ord_eq (x y : Nat) : (FloatKind.f64.format.order x y == some .eq) = (!isNaN x && !isNaN y && decide (srung x = srung y)) := by
  rw [f64_order]; unfold ocmp; cases isNaN x <;> cases isNaN y <;> simp <;> split <;> simp_all <;> first | omega | (split <;> simp_all)

theorem zero_srung : srung 0 = 0 ∧ isNaN 0 = false ∧ sgn 0 = false ∧ rung 0 = 0 := by decide +kernel
theorem max_srung : srung 9218868437227405311 = 9218868437227405311 ∧ isNaN 9218868437227405311 = false := by decide +kernel

theorem run_negf {P : Program} (k : FloatKind) (b : Nat) (w : World) : (Op.unary .neg (.float k b)).run P w = .ok (.float k (Op.negFloat k b)) w := rfl
theorem negf (x : Nat) : Op.negFloat .f64 x = x ^^^ 2 ^ 63 := rfl

theorem isnan_any (x : Nat) (w : World) : Calls Try.prog 28 #[.float .f64 x] w fun e w' => e = .returned (.bool (isNaN x)) ∧ w = w' := by
  have h := ord_self x
  go_enter Try.func28, Try.ntmps28
  go_wp2
  go_ret
  exact ⟨rfl, rfl⟩

theorem isinf_low (x : Nat) (w : World) (hx : isNaN x = false) : Calls Try.prog 29 #[.float .f64 x, .int .i64 (-1)] w fun e w' => e = .returned (.bool (decide (srung x = -9218868437227405312))) ∧ w = w' := by
  have h : (FloatKind.f64.format.order (Op.negFloat .f64 x) 9218868437227405311 == some .gt) = decide (srung x = -9218868437227405312) := by
    rw [ord_gt, negf, isNaN_neg, hx, max_srung.2, max_srung.1, srung_neg]
    have h1 := srung_cases x
    have h2 := (not_nan x).1 hx
    have eI := eINF
    simp only [Bool.not_false, Bool.true_and, decide_eq_decide]
    omega
  have r := @run_negf Try.prog .f64 x
  generalize Op.negFloat .f64 x = y at h r
  go_enter Try.func29, Try.ntmps29
  go_wp2
  go_ret
  exact ⟨rfl, rfl⟩

theorem isinf_high (x : Nat) (w : World) (hx : isNaN x = false) : Calls Try.prog 29 #[.float .f64 x, .int .i64 1] w fun e w' => e = .returned (.bool (decide (srung x = 9218868437227405312))) ∧ w = w' := by
  have h : (FloatKind.f64.format.order x 9218868437227405311 == some .gt) = decide (srung x = 9218868437227405312) := by
    rw [ord_gt, hx, max_srung.2, max_srung.1]
    have h1 := srung_cases x
    have h2 := (not_nan x).1 hx
    have eI := eINF
    simp only [Bool.not_false, Bool.true_and, decide_eq_decide]
    omega
  go_enter Try.func29, Try.ntmps29
  go_wp2
  go_ret
  exact ⟨rfl, rfl⟩

theorem run_bits (x : Nat) (w : World) : (callFunc 41 #[.float .f64 x]).run Try.prog w = .ok (.value (.int .u64 x)) w := by
  rw [run_callFunc_extern Try.func41 (by kernel_rfl) (by kernel_rfl) (by kernel_rfl) (e := Extern.MathFloatBits.float64bits) (by kernel_rfl)]
  rfl

theorem signbit_any (x : Nat) (w : World) : Calls Try.prog 30 #[.float .f64 x] w fun e w' => e = .returned (.bool (sgn x)) ∧ w = w' := by
  have hb := run_bits x
  have hs : decide (wrap64 (x : Int) < 0) = sgn x := by
    unfold wrap64 sgn
    rw [show SGN = 9223372036854775808 from rfl]
    rcases Nat.mod_two_eq_zero_or_one (x / 9223372036854775808) with h | h
    · rw [h]; simp; omega
    · rw [h]; simp; omega
  go_enter Try.func30, Try.ntmps30
  go_wp2
  go_ret
  exact ⟨rfl, rfl⟩

set_option maxHeartbeats 1600000 in
/-- package ratio's Class. -/
theorem class_any (x : Nat) (w : World) : Calls Try.prog 11 #[.float .f64 x] w fun e w' => e = .returned (.int .i64 (cls x)) ∧ w = w' := by
  have eI := eINF
  cases hx : isNaN x with
  | true =>
    have hc : cls x = 6 := by unfold cls; rw [hx]; rfl
    rw [hc]
    go_enter Try.func11, Try.ntmps11
    go_wp2_with fail
    refine (isnan_any _ _).mono ?_
    rintro e w' ⟨rfl, rfl⟩
    go_wp2_with fail
    go_ret
    exact ⟨rfl, rfl⟩
  | false =>
    have h1 : (FloatKind.f64.format.order x 0 == some .lt) = decide (srung x < 0) := by rw [ord_lt, hx, zero_srung.2.1, zero_srung.1]; simp
    have h2 : (FloatKind.f64.format.order x 0 == some .gt) = decide (0 < srung x) := by rw [ord_gt, hx, zero_srung.2.1, zero_srung.1]; simp
    have hc : cls x = if srung x = -9218868437227405312 then 0 else if srung x = 9218868437227405312 then 5 else if srung x < 0 then 1 else if 0 < srung x then 4 else if sgn x then 2 else 3 := by unfold cls; rw [hx]; rfl
    rw [hc]
    clear hc eI
    by_cases a0 : srung x = -9218868437227405312
    · rw [if_pos a0]
      go_enter Try.func11, Try.ntmps11
      go_wp2_with fail
      refine (isnan_any _ _).mono ?_
      rintro e w' ⟨rfl, rfl⟩
      go_wp2_with fail
      refine (isinf_low _ _ hx).mono ?_
      rintro e w' ⟨rfl, rfl⟩
      go_wp2_with fail
      go_ret
      exact ⟨rfl, rfl⟩
    · rw [if_neg a0]
      by_cases a1 : srung x = 9218868437227405312
      · rw [if_pos a1]
        go_enter Try.func11, Try.ntmps11
        go_wp2_with fail
        refine (isnan_any _ _).mono ?_
        rintro e w' ⟨rfl, rfl⟩
        go_wp2_with fail
        refine (isinf_low _ _ hx).mono ?_
        rintro e w' ⟨rfl, rfl⟩
        go_wp2_with fail
        refine (isinf_high _ _ hx).mono ?_
        rintro e w' ⟨rfl, rfl⟩
        go_wp2_with fail
        go_ret
        exact ⟨rfl, rfl⟩
      · rw [if_neg a1]
        by_cases a2 : srung x < 0
        · rw [if_pos a2]
          go_enter Try.func11, Try.ntmps11
          go_wp2_with fail
          refine (isnan_any _ _).mono ?_
          rintro e w' ⟨rfl, rfl⟩
          go_wp2_with fail
          refine (isinf_low _ _ hx).mono ?_
          rintro e w' ⟨rfl, rfl⟩
          go_wp2_with fail
          refine (isinf_high _ _ hx).mono ?_
          rintro e w' ⟨rfl, rfl⟩
          go_wp2_with fail
          go_ret
          exact ⟨rfl, rfl⟩
        · rw [if_neg a2]
          by_cases a3 : 0 < srung x
          · rw [if_pos a3]
            go_enter Try.func11, Try.ntmps11
            go_wp2_with fail
            refine (isnan_any _ _).mono ?_
            rintro e w' ⟨rfl, rfl⟩
            go_wp2_with fail
            refine (isinf_low _ _ hx).mono ?_
            rintro e w' ⟨rfl, rfl⟩
            go_wp2_with fail
            refine (isinf_high _ _ hx).mono ?_
            rintro e w' ⟨rfl, rfl⟩
            go_wp2_with fail
            go_ret
            exact ⟨rfl, rfl⟩
          · rw [if_neg a3]
            cases hs : sgn x with
            | true =>
              go_enter Try.func11, Try.ntmps11
              go_wp2_with fail
              refine (isnan_any _ _).mono ?_
              rintro e w' ⟨rfl, rfl⟩
              go_wp2_with fail
              refine (isinf_low _ _ hx).mono ?_
              rintro e w' ⟨rfl, rfl⟩
              go_wp2_with fail
              refine (isinf_high _ _ hx).mono ?_
              rintro e w' ⟨rfl, rfl⟩
              go_wp2_with fail
              refine (signbit_any _ _).mono ?_
              rintro e w' ⟨rfl, rfl⟩
              go_wp2_with fail
              go_ret
              exact ⟨rfl, rfl⟩
            | false =>
              go_enter Try.func11, Try.ntmps11
              go_wp2_with fail
              refine (isnan_any _ _).mono ?_
              rintro e w' ⟨rfl, rfl⟩
              go_wp2_with fail
              refine (isinf_low _ _ hx).mono ?_
              rintro e w' ⟨rfl, rfl⟩
              go_wp2_with fail
              refine (isinf_high _ _ hx).mono ?_
              rintro e w' ⟨rfl, rfl⟩
              go_wp2_with fail
              refine (signbit_any _ _).mono ?_
              rintro e w' ⟨rfl, rfl⟩
              go_wp2_with fail
              go_ret
              exact ⟨rfl, rfl⟩

theorem isnan_int (x : Int) (w : World) : Calls Try.prog 42 #[.int .i64 x] w fun e w' => e = .returned (.bool false) ∧ w = w' := by
  go_enter Try.func42, Try.ntmps42
  go_wp2
  go_ret
  exact ⟨rfl, rfl⟩
theorem isnan_float (x : Nat) (w : World) : Calls Try.prog 43 #[.float .f64 x] w fun e w' => e = .returned (.bool (isNaN x)) ∧ w = w' := by
  have h := ord_self x
  go_enter Try.func43, Try.ntmps43
  go_wp2
  go_ret
  exact ⟨rfl, rfl⟩

theorem cmp_int (x y : Int) (w : World) : Calls Try.prog 32 #[.int .i64 x, .int .i64 y] w fun e w' => e = .returned (.int .i64 (if x < y then -1 else if x = y then 0 else 1)) ∧ w = w' := by
  by_cases h1 : x < y
  · rw [if_pos h1]
    go_enter Try.func32, Try.ntmps32
    go_wp2_with (go_at_call 42; refine (isnan_int _ _).mono ?_; rintro e w' ⟨rfl, rfl⟩)
    go_ret
    exact ⟨rfl, rfl⟩
  · rw [if_neg h1]
    by_cases h2 : x = y
    · rw [if_pos h2]
      have h3 : ¬ y < x := by omega
      go_enter Try.func32, Try.ntmps32
      go_wp2_with (go_at_call 42; refine (isnan_int _ _).mono ?_; rintro e w' ⟨rfl, rfl⟩)
      go_ret
      exact ⟨rfl, rfl⟩
    · rw [if_neg h2]
      have h3 : y < x := by omega
      go_enter Try.func32, Try.ntmps32
      go_wp2_with (go_at_call 42; refine (isnan_int _ _).mono ?_; rintro e w' ⟨rfl, rfl⟩)
      go_ret
      exact ⟨rfl, rfl⟩

/-- cmp.Compare at two numbers of one class. -/
theorem cmp_float (x y : Nat) (w : World) (h : cls x = cls y) : Calls Try.prog 33 #[.float .f64 x, .float .f64 y] w fun e w' => e = .returned (.int .i64 (cp x y)) ∧ w = w' := by
  cases hx : isNaN x with
  | true =>
    obtain ⟨hy, hc⟩ := cp_nan h hx
    rw [hc]
    clear hc h
    go_enter Try.func33, Try.ntmps33
    go_wp2_with (go_at_call 43; refine (isnan_float _ _).mono ?_; rintro e w' ⟨rfl, rfl⟩)
    go_ret
    exact ⟨rfl, rfl⟩
  | false =>
    obtain ⟨hy, hc⟩ := cp_eq h hx
    rw [hc]
    clear hc h
    have o1 : (FloatKind.f64.format.order x y == some .lt) = decide (srung x < srung y) := by rw [ord_lt, hx, hy]; simp
    have o2 : (FloatKind.f64.format.order x y == some .gt) = decide (srung y < srung x) := by rw [ord_gt, hx, hy]; simp
    by_cases h1 : srung x < srung y
    · rw [if_pos h1]
      go_enter Try.func33, Try.ntmps33
      go_wp2_with (go_at_call 43; refine (isnan_float _ _).mono ?_; rintro e w' ⟨rfl, rfl⟩)
      go_ret
      exact ⟨rfl, rfl⟩
    · rw [if_neg h1]
      by_cases h2 : srung x = srung y
      · rw [if_pos h2]
        have h3 : ¬ srung y < srung x := by omega
        go_enter Try.func33, Try.ntmps33
        go_wp2_with (go_at_call 43; refine (isnan_float _ _).mono ?_; rintro e w' ⟨rfl, rfl⟩)
        go_ret
        exact ⟨rfl, rfl⟩
      · rw [if_neg h2]
        have h3 : srung y < srung x := by omega
        go_enter Try.func33, Try.ntmps33
        go_wp2_with (go_at_call 43; refine (isnan_float _ _).mono ?_; rintro e w' ⟨rfl, rfl⟩)
        go_ret
        exact ⟨rfl, rfl⟩

end Go.Proofs.Ythmpkelnmlkbiaa
