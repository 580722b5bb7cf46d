/- RatioOrder: of any three numbers that are ahead of one another the first is ahead of the last. -/
import Derived.Test.YthmpkelnmlkbiaaRatioTwo
namespace Go.Proofs.Ythmpkelnmlkbiaa
open Go.RowKit
set_option linter.unusedVariables false

theorem cp_pos {x y : Nat} : 0 < cp x y ↔ key y < key x := by unfold cp; omega
theorem cp_neg {x y : Nat} : cp x y < 0 ↔ key x < key y := by unfold cp; omega

theorem clamp_between {x y z : Nat} (h : ¬ 0 < cp x z) : 0 ≤ cp (clampV y x z) x ∧ cp (clampV y x z) z ≤ 0 := by
  rw [cp_pos] at h
  have a : ∀ u v, 0 ≤ cp u v ↔ key v ≤ key u := by intro u v; unfold cp; omega
  have b : ∀ u v, cp u v ≤ 0 ↔ key u ≤ key v := by intro u v; unfold cp; omega
  rw [a, b]
  unfold clampV
  simp only [cp_pos, cp_neg]
  split
  · omega
  · rename_i g
    simp only [not_or] at g
    split <;> omega

set_option maxHeartbeats 3200000 in
theorem ratioOrder_walk (x y z : Nat) (w : World) (h1 : x < TOP) (h2 : y < TOP) (h3 : z < TOP) : Calls Try.prog 6 #[.float .f64 x, .float .f64 y, .float .f64 z] w
    fun e w' => e = .returned (.bool true) ∧ Below w.heap.size w w' := by
  clear h1 h2 h3
  have XX := Lib.hid (compare_any x x)
  have XY := Lib.hid (compare_any x y)
  have YX := Lib.hid (compare_any y x)
  have YZ := Lib.hid (compare_any y z)
  have XZ := Lib.hid (compare_any x z)
  have CL := Lib.hid (clamp_any y x z)
  have CB := Lib.hid (@clamp_between x y z)
  have TR := Lib.hid (show cp x y ≤ 0 → cp y z ≤ 0 → ¬ 0 < cp x z by unfold cp; omega)
  obtain ⟨c, ec⟩ : ∃ c, clampV y x z = c := ⟨_, rfl⟩
  rw [ec] at CB
  have EC := Lib.hid ec
  clear ec
  have CX := Lib.hid (compare_any c x)
  have CZ := Lib.hid (compare_any c z)
  have E0 := Lib.hid (cp_self x)
  obtain ⟨a, e1⟩ : ∃ a, cp x y = a := ⟨_, rfl⟩
  obtain ⟨b, e2⟩ : ∃ a, cp y z = a := ⟨_, rfl⟩
  obtain ⟨d, e3⟩ : ∃ a, cp x z = a := ⟨_, rfl⟩
  obtain ⟨f, e4⟩ : ∃ a, cp c x = a := ⟨_, rfl⟩
  obtain ⟨g, e5⟩ : ∃ a, cp c z = a := ⟨_, rfl⟩
  have e6 : cp y x = -a := by rw [cp_swap, e1]
  rw [e1, e2, e3] at TR
  rw [e3, e4, e5] at CB
  have hb := cp_bounds x y
  rw [e1] at hb
  have A1 := Lib.hid e1
  have A2 := Lib.hid e2
  have A3 := Lib.hid e3
  have A4 := Lib.hid e4
  have A5 := Lib.hid e5
  have A6 := Lib.hid e6
  have ws : (IntKind.i64.wrap (a + -a) != 0) = false := by rw [IntKind.wrap_i64]; simp; omega
  have ws2 : (wrap64 (a + -a) != 0) = false := by unfold wrap64; simp; omega
  clear e1 e2 e3 e4 e5 e6 hb
  by_cases p1 : a ≤ 0
  · by_cases p2 : b ≤ 0
    · have p3 := TR.out p1 p2
      obtain ⟨f0, g0⟩ := CB.out p3
      go_enter Try.func6, Try.ntmps6
      go_wp2_with fail
      refine (known_any _).mono ?_
      rintro e w0 ⟨rfl, k0⟩
      have K0 := Lib.hid k0
      clear k0
      go_wp2_with fail
      refine (XX.out _).mono ?_
      rintro e w1 h
      obtain ⟨rfl, hk⟩ := h.kept
      rw [E0.out]
      have K1 := Lib.hid (K0.out.trans hk)
      clear h hk
      go_wp2_with fail
      refine (XY.out _).mono ?_
      rintro e w2 h
      obtain ⟨rfl, hk⟩ := h.kept
      rw [A1.out]
      have K2 := Lib.hid (K1.out.trans hk)
      clear h hk
      go_wp2_with fail
      refine (YX.out _).mono ?_
      rintro e w3 h
      obtain ⟨rfl, hk⟩ := h.kept
      rw [A6.out]
      have K3 := Lib.hid (K2.out.trans hk)
      clear h hk
      go_wp2_with fail
      refine (XY.out _).mono ?_
      rintro e w4 h
      obtain ⟨rfl, hk⟩ := h.kept
      rw [A1.out]
      have K4 := Lib.hid (K3.out.trans hk)
      clear h hk
      go_wp2_with fail
      refine (YZ.out _).mono ?_
      rintro e w5 h
      obtain ⟨rfl, hk⟩ := h.kept
      rw [A2.out]
      have K5 := Lib.hid (K4.out.trans hk)
      clear h hk
      go_wp2_with fail
      refine (XZ.out _).mono ?_
      rintro e w6 h
      obtain ⟨rfl, hk⟩ := h.kept
      rw [A3.out]
      have K6 := Lib.hid (K5.out.trans hk)
      clear h hk
      go_wp2_with fail
      refine (CL.out _).mono ?_
      rintro e w7 ⟨rfl, hk⟩
      rw [EC.out]
      have K7 := Lib.hid (K6.out.trans hk)
      clear hk
      go_wp2_with fail
      refine (XZ.out _).mono ?_
      rintro e w8 h
      obtain ⟨rfl, hk⟩ := h.kept
      rw [A3.out]
      have K8 := Lib.hid (K7.out.trans hk)
      clear h hk
      go_wp2_with fail
      refine (CX.out _).mono ?_
      rintro e w9 h
      obtain ⟨rfl, hk⟩ := h.kept
      rw [A4.out]
      have K9 := Lib.hid (K8.out.trans hk)
      clear h hk
      go_wp2_with fail
      refine (CZ.out _).mono ?_
      rintro e w10 h
      obtain ⟨rfl, hk⟩ := h.kept
      rw [A5.out]
      have K10 := Lib.hid (K9.out.trans hk)
      clear h hk
      go_wp2_with fail
      go_ret
      exact ⟨rfl, K10.out⟩
    · by_cases p3 : 0 < d
      · go_enter Try.func6, Try.ntmps6
        go_wp2_with fail
        refine (known_any _).mono ?_
        rintro e w0 ⟨rfl, k0⟩
        have K0 := Lib.hid k0
        clear k0
        go_wp2_with fail
        refine (XX.out _).mono ?_
        rintro e w1 h
        obtain ⟨rfl, hk⟩ := h.kept
        rw [E0.out]
        have K1 := Lib.hid (K0.out.trans hk)
        clear h hk
        go_wp2_with fail
        refine (XY.out _).mono ?_
        rintro e w2 h
        obtain ⟨rfl, hk⟩ := h.kept
        rw [A1.out]
        have K2 := Lib.hid (K1.out.trans hk)
        clear h hk
        go_wp2_with fail
        refine (YX.out _).mono ?_
        rintro e w3 h
        obtain ⟨rfl, hk⟩ := h.kept
        rw [A6.out]
        have K3 := Lib.hid (K2.out.trans hk)
        clear h hk
        go_wp2_with fail
        refine (XY.out _).mono ?_
        rintro e w4 h
        obtain ⟨rfl, hk⟩ := h.kept
        rw [A1.out]
        have K4 := Lib.hid (K3.out.trans hk)
        clear h hk
        go_wp2_with fail
        refine (YZ.out _).mono ?_
        rintro e w5 h
        obtain ⟨rfl, hk⟩ := h.kept
        rw [A2.out]
        have K5 := Lib.hid (K4.out.trans hk)
        clear h hk
        go_wp2_with fail
        refine (CL.out _).mono ?_
        rintro e w6 ⟨rfl, hk⟩
        rw [EC.out]
        have K6 := Lib.hid (K5.out.trans hk)
        clear hk
        go_wp2_with fail
        refine (XZ.out _).mono ?_
        rintro e w7 h
        obtain ⟨rfl, hk⟩ := h.kept
        rw [A3.out]
        have K7 := Lib.hid (K6.out.trans hk)
        clear h hk
        go_wp2_with fail
        go_ret
        exact ⟨rfl, K7.out⟩
      · obtain ⟨f0, g0⟩ := CB.out p3
        go_enter Try.func6, Try.ntmps6
        go_wp2_with fail
        refine (known_any _).mono ?_
        rintro e w0 ⟨rfl, k0⟩
        have K0 := Lib.hid k0
        clear k0
        go_wp2_with fail
        refine (XX.out _).mono ?_
        rintro e w1 h
        obtain ⟨rfl, hk⟩ := h.kept
        rw [E0.out]
        have K1 := Lib.hid (K0.out.trans hk)
        clear h hk
        go_wp2_with fail
        refine (XY.out _).mono ?_
        rintro e w2 h
        obtain ⟨rfl, hk⟩ := h.kept
        rw [A1.out]
        have K2 := Lib.hid (K1.out.trans hk)
        clear h hk
        go_wp2_with fail
        refine (YX.out _).mono ?_
        rintro e w3 h
        obtain ⟨rfl, hk⟩ := h.kept
        rw [A6.out]
        have K3 := Lib.hid (K2.out.trans hk)
        clear h hk
        go_wp2_with fail
        refine (XY.out _).mono ?_
        rintro e w4 h
        obtain ⟨rfl, hk⟩ := h.kept
        rw [A1.out]
        have K4 := Lib.hid (K3.out.trans hk)
        clear h hk
        go_wp2_with fail
        refine (YZ.out _).mono ?_
        rintro e w5 h
        obtain ⟨rfl, hk⟩ := h.kept
        rw [A2.out]
        have K5 := Lib.hid (K4.out.trans hk)
        clear h hk
        go_wp2_with fail
        refine (CL.out _).mono ?_
        rintro e w6 ⟨rfl, hk⟩
        rw [EC.out]
        have K6 := Lib.hid (K5.out.trans hk)
        clear hk
        go_wp2_with fail
        refine (XZ.out _).mono ?_
        rintro e w7 h
        obtain ⟨rfl, hk⟩ := h.kept
        rw [A3.out]
        have K7 := Lib.hid (K6.out.trans hk)
        clear h hk
        go_wp2_with fail
        refine (CX.out _).mono ?_
        rintro e w8 h
        obtain ⟨rfl, hk⟩ := h.kept
        rw [A4.out]
        have K8 := Lib.hid (K7.out.trans hk)
        clear h hk
        go_wp2_with fail
        refine (CZ.out _).mono ?_
        rintro e w9 h
        obtain ⟨rfl, hk⟩ := h.kept
        rw [A5.out]
        have K9 := Lib.hid (K8.out.trans hk)
        clear h hk
        go_wp2_with fail
        go_ret
        exact ⟨rfl, K9.out⟩
  · by_cases p3 : 0 < d
    · go_enter Try.func6, Try.ntmps6
      go_wp2_with fail
      refine (known_any _).mono ?_
      rintro e w0 ⟨rfl, k0⟩
      have K0 := Lib.hid k0
      clear k0
      go_wp2_with fail
      refine (XX.out _).mono ?_
      rintro e w1 h
      obtain ⟨rfl, hk⟩ := h.kept
      rw [E0.out]
      have K1 := Lib.hid (K0.out.trans hk)
      clear h hk
      go_wp2_with fail
      refine (XY.out _).mono ?_
      rintro e w2 h
      obtain ⟨rfl, hk⟩ := h.kept
      rw [A1.out]
      have K2 := Lib.hid (K1.out.trans hk)
      clear h hk
      go_wp2_with fail
      refine (YX.out _).mono ?_
      rintro e w3 h
      obtain ⟨rfl, hk⟩ := h.kept
      rw [A6.out]
      have K3 := Lib.hid (K2.out.trans hk)
      clear h hk
      go_wp2_with fail
      refine (XY.out _).mono ?_
      rintro e w4 h
      obtain ⟨rfl, hk⟩ := h.kept
      rw [A1.out]
      have K4 := Lib.hid (K3.out.trans hk)
      clear h hk
      go_wp2_with fail
      refine (CL.out _).mono ?_
      rintro e w5 ⟨rfl, hk⟩
      rw [EC.out]
      have K5 := Lib.hid (K4.out.trans hk)
      clear hk
      go_wp2_with fail
      refine (XZ.out _).mono ?_
      rintro e w6 h
      obtain ⟨rfl, hk⟩ := h.kept
      rw [A3.out]
      have K6 := Lib.hid (K5.out.trans hk)
      clear h hk
      go_wp2_with fail
      go_ret
      exact ⟨rfl, K6.out⟩
    · obtain ⟨f0, g0⟩ := CB.out p3
      go_enter Try.func6, Try.ntmps6
      go_wp2_with fail
      refine (known_any _).mono ?_
      rintro e w0 ⟨rfl, k0⟩
      have K0 := Lib.hid k0
      clear k0
      go_wp2_with fail
      refine (XX.out _).mono ?_
      rintro e w1 h
      obtain ⟨rfl, hk⟩ := h.kept
      rw [E0.out]
      have K1 := Lib.hid (K0.out.trans hk)
      clear h hk
      go_wp2_with fail
      refine (XY.out _).mono ?_
      rintro e w2 h
      obtain ⟨rfl, hk⟩ := h.kept
      rw [A1.out]
      have K2 := Lib.hid (K1.out.trans hk)
      clear h hk
      go_wp2_with fail
      refine (YX.out _).mono ?_
      rintro e w3 h
      obtain ⟨rfl, hk⟩ := h.kept
      rw [A6.out]
      have K3 := Lib.hid (K2.out.trans hk)
      clear h hk
      go_wp2_with fail
      refine (XY.out _).mono ?_
      rintro e w4 h
      obtain ⟨rfl, hk⟩ := h.kept
      rw [A1.out]
      have K4 := Lib.hid (K3.out.trans hk)
      clear h hk
      go_wp2_with fail
      refine (CL.out _).mono ?_
      rintro e w5 ⟨rfl, hk⟩
      rw [EC.out]
      have K5 := Lib.hid (K4.out.trans hk)
      clear hk
      go_wp2_with fail
      refine (XZ.out _).mono ?_
      rintro e w6 h
      obtain ⟨rfl, hk⟩ := h.kept
      rw [A3.out]
      have K6 := Lib.hid (K5.out.trans hk)
      clear h hk
      go_wp2_with fail
      refine (CX.out _).mono ?_
      rintro e w7 h
      obtain ⟨rfl, hk⟩ := h.kept
      rw [A4.out]
      have K7 := Lib.hid (K6.out.trans hk)
      clear h hk
      go_wp2_with fail
      refine (CZ.out _).mono ?_
      rintro e w8 h
      obtain ⟨rfl, hk⟩ := h.kept
      rw [A5.out]
      have K8 := Lib.hid (K7.out.trans hk)
      clear h hk
      go_wp2_with fail
      go_ret
      exact ⟨rfl, K8.out⟩

end Go.Proofs.Ythmpkelnmlkbiaa
