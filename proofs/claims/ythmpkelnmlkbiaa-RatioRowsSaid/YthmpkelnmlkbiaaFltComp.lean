/- Compare of both, and Alike. -/
import Derived.Test.YthmpkelnmlkbiaaFltCmp
namespace Go.Proofs.Ythmpkelnmlkbiaa
open Go.RowKit
set_option linter.unusedVariables false

/-- cmp.Or of two: the first that is not 0. -/
theorem or_two (x y : Int) (w : World) (t : TypeId) : Calls Try.prog 31 #[.slice (some ⟨w.heap.size, 0, none⟩) 2 2] (w.alloc (.cells #[.int .i64 x, .int .i64 y] t))
    fun e w' => e = .returned (.int .i64 (if x = 0 then y else x)) ∧ w.alloc (.cells #[.int .i64 x, .int .i64 y] t) = w' := by
  have c0 : (w.alloc (.cells #[.int .i64 x, .int .i64 y] t)).cell? ⟨w.heap.size, 0, none⟩ = some (.int .i64 x) := by simp
  have c1 : (w.alloc (.cells #[.int .i64 x, .int .i64 y] t)).cell? ⟨w.heap.size, 1, none⟩ = some (.int .i64 y) := by simp
  generalize w.alloc (.cells #[.int .i64 x, .int .i64 y] t) = w1 at c0 c1 ⊢
  generalize w.heap.size = b at c0 c1 ⊢
  by_cases hx : x = 0
  · subst hx
    rw [if_pos rfl]
    by_cases hy : y = 0
    · subst hy
      go_enter Try.func31, Try.ntmps31
      go_wp2
      refine wp_loop_rounds 3 ?_
      rw [rounds_succ]
      go_wp2
      rw [rounds_succ]
      go_wp2
      rw [rounds_succ]
      go_wp2
      go_ret
      exact ⟨rfl, rfl⟩
    · go_enter Try.func31, Try.ntmps31
      go_wp2
      refine wp_loop_rounds 3 ?_
      rw [rounds_succ]
      go_wp2
      rw [rounds_succ]
      go_wp2
      go_ret
      exact ⟨rfl, rfl⟩
  · rw [if_neg hx]
    go_enter Try.func31, Try.ntmps31
    go_wp2
    refine wp_loop_rounds 3 ?_
    rw [rounds_succ]
    go_wp2
    go_ret
    exact ⟨rfl, rfl⟩

/-- What Compare does: it answers cp, and lays one block. -/
def CP (x y : Nat) (w : World) (e : Ending) (w' : World) : Prop := e = .returned (.int .i64 (cp x y)) ∧ ∃ c t, w' = w.alloc (.cells c t)

theorem CP.kept {x y : Nat} {w : World} {e : Ending} {w' : World} (h : CP x y w e w') : e = .returned (.int .i64 (cp x y)) ∧ Kept w w' := by
  obtain ⟨rfl, c, t, rfl⟩ := h
  exact ⟨rfl, Kept.one _ _ _⟩

theorem cmp_way (x y : Nat) : ∃ c1 c2 : Int, c1 = (if cls x < cls y then -1 else if cls x = cls y then 0 else 1) ∧ (cls x = cls y → c2 = cp x y) ∧ cp x y = if c1 = 0 then c2 else c1 := by
  refine ⟨_, cp x y, rfl, fun _ => rfl, ?_⟩
  by_cases h1 : cls x < cls y
  · rw [if_pos h1, cp_lt h1]; rfl
  · rw [if_neg h1]
    by_cases h2 : cls x = cls y
    · rw [if_pos h2]; rfl
    · rw [if_neg h2, cp_gt (by omega)]; rfl

/-- cmp.Compare at any two numbers: some answer. -/
theorem cmp_float_any (x y : Nat) (w : World) : ∃ c : Int, Calls Try.prog 33 #[.float .f64 x, .float .f64 y] w fun e w' => e = .returned (.int .i64 c) ∧ w = w' := by
  cases hx : isNaN x with
  | true =>
    cases hy : isNaN y with
    | true => exact ⟨_, cmp_float x y w (by unfold cls; rw [hx, hy]; rfl)⟩
    | false =>
      refine ⟨-1, ?_⟩
      go_enter Try.func33, Try.ntmps33
      go_wp2_with (go_at_call 43; refine (isnan_float _ _).mono ?_; rintro e w' ⟨rfl, rfl⟩)
      go_ret
      exact ⟨rfl, rfl⟩
  | false =>
    cases hy : isNaN y with
    | true =>
      refine ⟨1, ?_⟩
      go_enter Try.func33, Try.ntmps33
      go_wp2_with (go_at_call 43; refine (isnan_float _ _).mono ?_; rintro e w' ⟨rfl, rfl⟩)
      go_ret
      exact ⟨rfl, rfl⟩
    | false =>
      have o1 : (FloatKind.f64.format.order x y == some .lt) = decide (srung x < srung y) := by rw [ord_lt, hx, hy]; simp
      have o2 : (FloatKind.f64.format.order x y == some .gt) = decide (srung y < srung x) := by rw [ord_gt, hx, hy]; simp
      by_cases h1 : srung x < srung y
      · refine ⟨-1, ?_⟩
        go_enter Try.func33, Try.ntmps33
        go_wp2_with (go_at_call 43; refine (isnan_float _ _).mono ?_; rintro e w' ⟨rfl, rfl⟩)
        go_ret
        exact ⟨rfl, rfl⟩
      · by_cases h2 : srung y < srung x
        · refine ⟨1, ?_⟩
          go_enter Try.func33, Try.ntmps33
          go_wp2_with (go_at_call 43; refine (isnan_float _ _).mono ?_; rintro e w' ⟨rfl, rfl⟩)
          go_ret
          exact ⟨rfl, rfl⟩
        · refine ⟨0, ?_⟩
          go_enter Try.func33, Try.ntmps33
          go_wp2_with (go_at_call 43; refine (isnan_float _ _).mono ?_; rintro e w' ⟨rfl, rfl⟩)
          go_ret
          exact ⟨rfl, rfl⟩

/-- package ratio's Compare. -/
theorem compare_any (x y : Nat) (w : World) : Calls Try.prog 13 #[.float .f64 x, .float .f64 y] w (CP x y w) := by
  obtain ⟨c2, hc2, he⟩ : ∃ c2 : Int, (Calls Try.prog 33 #[.float .f64 x, .float .f64 y] w fun e w' => e = .returned (.int .i64 c2) ∧ w = w') ∧
      cp x y = if (if cls x < cls y then -1 else if cls x = cls y then 0 else 1 : Int) = 0 then c2 else (if cls x < cls y then -1 else if cls x = cls y then 0 else 1) := by
    by_cases h2 : cls x = cls y
    · refine ⟨cp x y, cmp_float x y w h2, ?_⟩
      simp only [h2, Int.lt_irrefl, if_false, if_true]
    · obtain ⟨c, hc⟩ := cmp_float_any x y w
      refine ⟨c, hc, ?_⟩
      by_cases h1 : cls x < cls y
      · rw [if_pos h1, cp_lt h1]; rfl
      · rw [if_neg h1, if_neg h2, cp_gt (by omega)]; rfl
  unfold CP
  rw [he]
  clear he
  have hcx := class_any x w
  have hcy := class_any y w
  have hci := cmp_int (cls x) (cls y) w
  generalize (if cls x < cls y then -1 else if cls x = cls y then 0 else 1 : Int) = c1 at hci ⊢
  generalize cls x = kx at hcx hci
  generalize cls y = ky at hcy hci
  have ho := or_two c1 c2
  generalize (if c1 = 0 then c2 else c1) = r at ho ⊢
  have HO := Lib.hid ho
  clear ho
  go_enter Try.func13, Try.ntmps13
  go_wp2_with fail
  refine hcx.mono ?_
  rintro e1 w1 ⟨rfl, rfl⟩
  go_wp2_with fail
  refine hcy.mono ?_
  rintro e1 w1 ⟨rfl, rfl⟩
  go_wp2_with fail
  refine hci.mono ?_
  rintro e1 w1 ⟨rfl, rfl⟩
  go_wp2_with fail
  refine hc2.mono ?_
  rintro e1 w1 ⟨rfl, rfl⟩
  go_wp2_with fail
  refine (HO.out _ _).mono ?_
  rintro e1 w1 ⟨rfl, rfl⟩
  go_wp2_with fail
  go_ret
  exact ⟨rfl, _, _, rfl⟩

/-- The reference's Compare: it may draw. -/
def RCP (x y : Nat) (w : World) (e : Ending) (w' : World) : Prop := e = .returned (.int .i64 (cp x y)) ∧ ∃ n, w' = w.drewN n
theorem RCP.kept {x y : Nat} {w : World} {e : Ending} {w' : World} (h : RCP x y w e w') : e = .returned (.int .i64 (cp x y)) ∧ Kept w w' := by
  obtain ⟨rfl, n, rfl⟩ := h
  exact ⟨rfl, Kept.drewN _ _⟩

theorem cls_mid {x : Nat} (hx : cls x = 1 ∨ cls x = 4) : isNaN x = false := by
  unfold cls at hx
  cases h : isNaN x
  · rfl
  · rw [h] at hx; simp at hx

theorem cp_flat {x y : Nat} (h : cls x = cls y) (h1 : cls x ≠ 1) (h4 : cls x ≠ 4) : cp x y = 0 := by
  cases hx : isNaN x with
  | true => exact (cp_nan h hx).2
  | false =>
    obtain ⟨hy, hc⟩ := cp_eq h hx
    rw [hc]
    have eI := eINF
    have : srung x = srung y := by
      unfold cls at h h1 h4
      simp only [hx, hy, Bool.false_eq_true, if_false] at h h1 h4
      omega
    rw [if_neg (by omega), if_pos this]

set_option maxHeartbeats 800000 in
theorem rcompare_any (x y : Nat) (w : World) : Calls Try.prog 14 #[.float .f64 x, .float .f64 y] w (RCP x y w) := by
  have hrx := Lib.hid (rclass_any x)
  have hry := Lib.hid (rclass_any y)
  by_cases h1 : cls x < cls y
  · unfold RCP
    rw [cp_lt h1]
    generalize hkx : cls x = kx at h1
    generalize hky : cls y = ky at h1
    have Hx := Lib.hid hkx
    have Hy := Lib.hid hky
    clear hkx hky
    go_enter Try.func14, Try.ntmps14
    go_wp2_with fail
    refine (hrx.out _).mono ?_
    rintro e1 w1 ⟨rfl, n, rfl⟩
    rw [Hx.out]
    go_wp2_with fail
    refine (hry.out _).mono ?_
    rintro e1 w1 ⟨rfl, m, rfl⟩
    rw [Hy.out]
    go_wp2_with fail
    go_ret
    exact ⟨rfl, n + m, rfl⟩
  · by_cases h2 : cls y < cls x
    · unfold RCP
      rw [cp_gt h2]
      generalize hkx : cls x = kx at h1 h2
      generalize hky : cls y = ky at h1 h2
      have Hx := Lib.hid hkx
      have Hy := Lib.hid hky
      clear hkx hky
      go_enter Try.func14, Try.ntmps14
      go_wp2_with fail
      refine (hrx.out _).mono ?_
      rintro e1 w1 ⟨rfl, n, rfl⟩
      rw [Hx.out]
      go_wp2_with fail
      refine (hry.out _).mono ?_
      rintro e1 w1 ⟨rfl, m, rfl⟩
      rw [Hy.out]
      go_wp2_with fail
      go_ret
      exact ⟨rfl, n + m, rfl⟩
    · have h3 : cls x = cls y := by omega
      by_cases h4 : cls x ≠ 1 ∧ cls x ≠ 4
      · unfold RCP
        rw [cp_flat h3 h4.1 h4.2]
        have g1 : (cls x != 1) = true := by simp; exact h4.1
        have g4 : (cls x != 4) = true := by simp; exact h4.2
        clear h4
        generalize hkx : cls x = kx at h1 h2 h3 g1 g4
        have Hx := Lib.hid hkx
        have Hy := Lib.hid h3.symm
        clear hkx h1 h2 h3
        go_enter Try.func14, Try.ntmps14
        go_wp2_with fail
        refine (hrx.out _).mono ?_
        rintro e1 w1 ⟨rfl, n, rfl⟩
        rw [Hx.out]
        go_wp2_with fail
        refine (hry.out _).mono ?_
        rintro e1 w1 ⟨rfl, m, rfl⟩
        rw [Hy.out]
        go_wp2_with fail
        go_ret
        exact ⟨rfl, n + m, rfl⟩
      · have hx : isNaN x = false := cls_mid (by omega)
        obtain ⟨hy, hc⟩ := cp_eq h3 hx
        have o1 : (FloatKind.f64.format.order x y == some .lt) = decide (srung x < srung y) := by rw [ord_lt, hx, hy]; simp
        have o2 : (FloatKind.f64.format.order x y == some .gt) = decide (srung y < srung x) := by rw [ord_gt, hx, hy]; simp
        unfold RCP
        rw [hc]
        have g : (cls x != 1) = false ∨ ((cls x != 1) = true ∧ (cls x != 4) = false) := by simp; omega
        clear hc hx hy h4
        generalize hkx : cls x = kx at h1 h2 h3 g
        have Hx := Lib.hid hkx
        have Hy := Lib.hid h3.symm
        clear hkx h1 h2 h3
        by_cases s1 : srung x < srung y
        · rw [if_pos s1]
          rcases g with g | ⟨g', g⟩ <;>
          (go_enter Try.func14, Try.ntmps14
           go_wp2_with fail
           refine (hrx.out _).mono ?_
           rintro e1 w1 ⟨rfl, n, rfl⟩
           rw [Hx.out]
           go_wp2_with fail
           refine (hry.out _).mono ?_
           rintro e1 w1 ⟨rfl, m, rfl⟩
           rw [Hy.out]
           go_wp2_with fail
           go_ret
           exact ⟨rfl, n + m, rfl⟩)
        · rw [if_neg s1]
          by_cases s2 : srung x = srung y
          · rw [if_pos s2]
            have s3 : ¬ srung y < srung x := by omega
            rcases g with g | ⟨g', g⟩ <;>
            (go_enter Try.func14, Try.ntmps14
             go_wp2_with fail
             refine (hrx.out _).mono ?_
             rintro e1 w1 ⟨rfl, n, rfl⟩
             rw [Hx.out]
             go_wp2_with fail
             refine (hry.out _).mono ?_
             rintro e1 w1 ⟨rfl, m, rfl⟩
             rw [Hy.out]
             go_wp2_with fail
             go_ret
             exact ⟨rfl, n + m, rfl⟩)
          · rw [if_neg s2]
            have s3 : srung y < srung x := by omega
            rcases g with g | ⟨g', g⟩ <;>
            (go_enter Try.func14, Try.ntmps14
             go_wp2_with fail
             refine (hrx.out _).mono ?_
             rintro e1 w1 ⟨rfl, n, rfl⟩
             rw [Hx.out]
             go_wp2_with fail
             refine (hry.out _).mono ?_
             rintro e1 w1 ⟨rfl, m, rfl⟩
             rw [Hy.out]
             go_wp2_with fail
             go_ret
             exact ⟨rfl, n + m, rfl⟩)

/-- Alike. -/
def AL (x y : Nat) (w : World) (e : Ending) (w' : World) : Prop := e = .returned (.bool (decide (cp x y = 0))) ∧ ∃ n, w' = w.drewN n
theorem AL.kept {x y : Nat} {w : World} {e : Ending} {w' : World} (h : AL x y w e w') : e = .returned (.bool (decide (cp x y = 0))) ∧ Kept w w' := by
  obtain ⟨rfl, n, rfl⟩ := h
  exact ⟨rfl, Kept.drewN _ _⟩

theorem alike_any (x y : Nat) (w : World) : Calls Try.prog 15 #[.float .f64 x, .float .f64 y] w (AL x y w) := by
  have h := Lib.hid (rcompare_any x y)
  unfold AL
  generalize hc : cp x y = c
  have HC := Lib.hid hc
  clear hc
  go_enter Try.func15, Try.ntmps15
  go_wp2_with fail
  refine (h.out _).mono ?_
  rintro e1 w1 ⟨rfl, n, rfl⟩
  rw [HC.out]
  go_wp2_with fail
  go_ret
  exact ⟨rfl, n, rfl⟩

end Go.Proofs.Ythmpkelnmlkbiaa
