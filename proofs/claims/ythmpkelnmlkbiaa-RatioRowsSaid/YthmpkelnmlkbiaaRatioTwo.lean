/- RatioTwo: any two numbers: their classes, which is ahead, held between any two. -/
import Derived.Test.YthmpkelnmlkbiaaFltKnownW
namespace Go.Proofs.Ythmpkelnmlkbiaa
open Go.RowKit
set_option linter.unusedVariables false

/-- The reference's Clamp. -/
theorem ord_ne (x : Nat) : (FloatKind.f64.format.order x x != some .eq) = isNaN x := ord_self x

set_option maxHeartbeats 800000 in
theorem rclamp_any (x lo hi : Nat) (w : World) : Calls Try.prog 17 #[.float .f64 x, .float .f64 lo, .float .f64 hi] w (CL x lo hi w) := by
  have h1 := fun w => Lib.hid (rcompare_any x lo w)
  have h2 := fun w => Lib.hid (rcompare_any lo hi w)
  have h3 := fun w => Lib.hid (rcompare_any x hi w)
  have h0 := ord_self x
  have hv := Lib.hid (show ∀ c1 c2 c3 b, cp x lo = c1 → cp lo hi = c2 → cp x hi = c3 → isNaN x = b → clampV x lo hi = if 0 < c2 ∨ b = true ∨ c1 < 0 then lo else if 0 < c3 then hi else x by
    intro c1 c2 c3 b e1 e2 e3 e4; unfold clampV; rw [e1, e2, e3, e4])
  unfold CL
  obtain ⟨c1, e1⟩ : ∃ c, cp x lo = c := ⟨_, rfl⟩
  obtain ⟨c2, e2⟩ : ∃ c, cp lo hi = c := ⟨_, rfl⟩
  obtain ⟨c3, e3⟩ : ∃ c, cp x hi = c := ⟨_, rfl⟩
  obtain ⟨b, e4⟩ : ∃ c, isNaN x = c := ⟨_, rfl⟩
  rw [hv.out c1 c2 c3 b e1 e2 e3 e4]
  rw [e4] at h0
  have E1 := Lib.hid e1
  have E2 := Lib.hid e2
  have E3 := Lib.hid e3
  clear e1 e2 e3 e4 hv
  by_cases g2 : 0 < c2
  · rw [if_pos (.inl g2)]
    go_enter Try.func17, Try.ntmps17
    go_wp2_with fail
    refine ((h2 _).out).mono ?_
    rintro e w1 h
    obtain ⟨rfl, k1⟩ := h.kept
    rw [E2.out]
    go_wp2_with fail
    go_ret
    exact ⟨rfl, k1⟩
  · cases b with
    | true =>
      rw [if_pos (.inr (.inl rfl))]
      go_enter Try.func17, Try.ntmps17
      go_wp2_with fail
      refine ((h2 _).out).mono ?_
      rintro e w1 h
      obtain ⟨rfl, k1⟩ := h.kept
      rw [E2.out]
      go_wp2_with fail
      go_ret
      exact ⟨rfl, k1⟩
    | false =>
      by_cases g1 : c1 < 0
      · rw [if_pos (.inr (.inr g1))]
        go_enter Try.func17, Try.ntmps17
        go_wp2_with fail
        refine ((h2 _).out).mono ?_
        rintro e w1 h
        obtain ⟨rfl, k1⟩ := h.kept
        rw [E2.out]
        go_wp2_with fail
        refine ((h1 _).out).mono ?_
        rintro e w2 h
        obtain ⟨rfl, k2⟩ := h.kept
        rw [E1.out]
        go_wp2_with fail
        go_ret
        exact ⟨rfl, k1.trans k2⟩
      · rw [if_neg (by simp; omega)]
        by_cases g3 : 0 < c3
        · rw [if_pos g3]
          go_enter Try.func17, Try.ntmps17
          go_wp2_with fail
          refine ((h2 _).out).mono ?_
          rintro e w1 h
          obtain ⟨rfl, k1⟩ := h.kept
          rw [E2.out]
          go_wp2_with fail
          refine ((h1 _).out).mono ?_
          rintro e w2 h
          obtain ⟨rfl, k2⟩ := h.kept
          rw [E1.out]
          go_wp2_with fail
          refine ((h3 _).out).mono ?_
          rintro e w3 h
          obtain ⟨rfl, k3⟩ := h.kept
          rw [E3.out]
          go_wp2_with fail
          go_ret
          exact ⟨rfl, k1.trans (k2.trans k3)⟩
        · rw [if_neg g3]
          go_enter Try.func17, Try.ntmps17
          go_wp2_with fail
          refine ((h2 _).out).mono ?_
          rintro e w1 h
          obtain ⟨rfl, k1⟩ := h.kept
          rw [E2.out]
          go_wp2_with fail
          refine ((h1 _).out).mono ?_
          rintro e w2 h
          obtain ⟨rfl, k2⟩ := h.kept
          rw [E1.out]
          go_wp2_with fail
          refine ((h3 _).out).mono ?_
          rintro e w3 h
          obtain ⟨rfl, k3⟩ := h.kept
          rw [E3.out]
          go_wp2_with fail
          go_ret
          exact ⟨rfl, k1.trans (k2.trans k3)⟩

theorem cp_bounds (x y : Nat) : -1 ≤ cp x y ∧ cp x y ≤ 1 := by unfold cp; omega

theorem lt_of_wf {x : Nat} (h : (Lit.float .f64 x).wf = true) : x < TOP := by
  simpa [Lit.wf] using h

set_option maxHeartbeats 1600000 in
theorem ratioTwo_walk (x y lo hi : Nat) (w : World) (h1 : x < TOP) (h2 : y < TOP) (h3 : lo < TOP) (h4 : hi < TOP) : Calls Try.prog 3 #[.float .f64 x, .float .f64 y, .float .f64 lo, .float .f64 hi] w
    fun e w' => e = .returned (.bool true) ∧ Below w.heap.size w w' := by
  clear h1 h2 h3 h4
  have C1 := Lib.hid (class_any x)
  have C2 := Lib.hid (rclass_any x)
  have D1 := Lib.hid (compare_any x y)
  have D2 := Lib.hid (rcompare_any x y)
  have D3 := Lib.hid (compare_any y x)
  have E1 := Lib.hid (clamp_any x lo hi)
  have E2 := Lib.hid (rclamp_any x lo hi)
  have AQ := Lib.hid (alike_any (clampV x lo hi) (clampV x lo hi))
  obtain ⟨c, ec⟩ : ∃ c, cp x y = c := ⟨_, rfl⟩
  obtain ⟨k, ek⟩ : ∃ k, cls x = k := ⟨_, rfl⟩
  obtain ⟨z, ez⟩ : ∃ z, clampV x lo hi = z := ⟨_, rfl⟩
  have hb := cp_bounds x y
  rw [ec] at hb
  have ec' : cp y x = -c := by rw [cp_swap, ec]
  have EC := Lib.hid ec
  have EC' := Lib.hid ec'
  have EK := Lib.hid ek
  have EZ := Lib.hid ez
  clear ec ec' ek ez
  have wr : IntKind.i64.wrap (0 - c) = -c := by rw [IntKind.wrap_i64]; omega
  go_enter Try.func3, Try.ntmps3
  go_wp2_with fail
  refine (known_any _).mono ?_
  rintro e w0 ⟨rfl, k0⟩
  have K0 := Lib.hid k0
  clear k0
  go_wp2_with fail
  refine (C1.out _).mono ?_
  rintro e w1 ⟨rfl, rfl⟩
  rw [EK.out]
  go_wp2_with fail
  refine (C2.out _).mono ?_
  rintro e w2 ⟨rfl, n, rfl⟩
  rw [EK.out]
  go_wp2_with fail
  refine (D1.out _).mono ?_
  rintro e w3 h
  obtain ⟨rfl, k3⟩ := h.kept
  rw [EC.out]
  have K3 := Lib.hid (K0.out.trans ((Kept.drewN _ _).trans k3))
  clear h k3
  go_wp2_with fail
  refine (D2.out _).mono ?_
  rintro e w4 h
  obtain ⟨rfl, k4⟩ := h.kept
  rw [EC.out]
  have K4 := Lib.hid (K3.out.trans k4)
  clear h k4
  go_wp2_with fail
  refine (D3.out _).mono ?_
  rintro e w5 h
  obtain ⟨rfl, k5⟩ := h.kept
  rw [EC'.out]
  have K5 := Lib.hid (K4.out.trans k5)
  clear h k5
  go_wp2_with fail
  refine (D2.out _).mono ?_
  rintro e w6 h
  obtain ⟨rfl, k6⟩ := h.kept
  rw [EC.out]
  have K6 := Lib.hid (K5.out.trans k6)
  clear h k6
  go_wp2_with fail
  refine (E1.out _).mono ?_
  rintro e w7 ⟨rfl, k7⟩
  have K7 := Lib.hid (K6.out.trans k7)
  clear k7
  go_wp2_with fail
  refine (E2.out _).mono ?_
  rintro e w8 ⟨rfl, k8⟩
  have K8 := Lib.hid (K7.out.trans k8)
  clear k8
  go_wp2_with fail
  refine (AQ.out _).mono ?_
  rintro e w9 h
  obtain ⟨rfl, k9⟩ := h.kept
  rw [show decide (cp (clampV x lo hi) (clampV x lo hi) = 0) = true from decide_eq_true (cp_self _)]
  have K9 := Lib.hid (K8.out.trans k9)
  clear h k9
  go_wp2_with fail
  go_ret
  exact ⟨rfl, K9.out⟩

end Go.Proofs.Ythmpkelnmlkbiaa
