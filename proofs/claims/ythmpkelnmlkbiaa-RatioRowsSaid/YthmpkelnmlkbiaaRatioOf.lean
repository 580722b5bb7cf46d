/- RatioOf: any whole number by any other one, edges and all. -/
import Derived.Test.YthmpkelnmlkbiaaRatioTwo
import Derived.Test.YthmpkelnmlkbiaaFltFacts
namespace Go.Proofs.Ythmpkelnmlkbiaa
open Go.RowKit
set_option linter.unusedVariables false

theorem bounds_i64 {n : Int} (h : (Lit.int .i64 n).wf = true) : -9223372036854775808 ≤ n ∧ n ≤ 9223372036854775807 := by
  simp only [Lit.wf, IntKind.min, IntKind.max, decide_eq_true_eq] at h
  simpa [IntKind.signed, IntKind.bits] using h
theorem natAbs_of_wf {n : Int} (h : (Lit.int .i64 n).wf = true) : n.natAbs ≤ 9223372036854775808 := by
  have := bounds_i64 h
  omega

theorem of_word (a b : Int) (s : Bool) (R : Nat) (hR : R ≤ INF) (h : Ieee.double.div (floatOfInt .f64 a) (floatOfInt .f64 b) = some (Ieee.double.word s R)) (w : World) :
    Calls Try.prog 18 #[.int .i64 a, .int .i64 b] w fun e w' => e = .returned (.float .f64 (Ieee.double.word s R)) ∧ Kept w w' := of_k a b _ h w
theorem ratio_word (a b : Int) (s : Bool) (R : Nat) (h : Ieee.double.div (floatOfInt .f64 a) (floatOfInt .f64 b) = some (Ieee.double.word s R)) (w : World) :
    Calls Try.prog 19 #[.int .i64 a, .int .i64 b] w fun e w' => e = .returned (.float .f64 (Ieee.double.word s R)) ∧ Kept w w' := by
  refine (ratio_any a b w).mono ?_
  rintro e w' ⟨r', n, rfl, rfl, hn, _⟩
  rw [h] at hn
  obtain ⟨_, rfl⟩ := nrm_some.1 hn
  exact ⟨rfl, Kept.drewN _ _⟩

set_option maxHeartbeats 3200000 in
theorem ratioOf_walk (a b : Int) (w : World) (ha : (Lit.int .i64 a).wf = true) (hb : (Lit.int .i64 b).wf = true) : Calls Try.prog 4 #[.int .i64 a, .int .i64 b] w
    fun e w' => e = .returned (.bool true) ∧ Below w.heap.size w w' := by
  have na := natAbs_of_wf ha
  have nb := natAbs_of_wf hb
  clear ha hb
  by_cases b0 : b = 0
  · subst b0
    by_cases a0 : a = 0
    · subst a0
      clear na nb
      go_enter Try.func4, Try.ntmps4
      go_wp2_with fail
      refine (known_any _).mono ?_
      rintro e w0 ⟨rfl, k0⟩
      have K0 := Lib.hid k0
      clear k0
      go_wp2_with fail
      refine (of_nan _).mono ?_
      rintro e w1 ⟨n, rfl, hn, ht, hk⟩
      have HN := Lib.hid hn
      have K1 := Lib.hid (K0.out.trans hk)
      clear hn ht hk
      go_wp2_with fail
      refine (class_any n _).mono ?_
      rintro e w2 ⟨rfl, rfl⟩
      rw [cls_nan HN.out]
      go_wp2_with fail
      go_ret
      exact ⟨rfl, K1.out⟩
    · have hO := of_word a 0 _ INF (Nat.le_refl _) (of_zero a0 na)
      have hc := cls_word (decide (a < 0)) (Nat.le_refl INF)
      rw [if_neg (by decide), if_pos rfl] at hc
      have HO := Lib.hid hO
      have HC := Lib.hid hc
      clear hO hc na nb
      generalize Ieee.double.word (decide (a < 0)) INF = z at HO HC
      by_cases ap : 0 < a
      · have hd : decide (a < 0) = false := decide_eq_false (by omega)
        rw [hd] at HC
        have q1 : (a == 0) = false := by simp; omega
        clear hd a0
        go_enter Try.func4, Try.ntmps4
        go_wp2_with fail
        refine (known_any _).mono ?_
        rintro e w0 ⟨rfl, k0⟩
        have K0 := Lib.hid k0
        clear k0
        go_wp2_with fail
        refine (HO.out _).mono ?_
        rintro e w1 ⟨rfl, hk⟩
        have K1 := Lib.hid (K0.out.trans hk)
        clear hk
        go_wp2_with fail
        refine (class_any z _).mono ?_
        rintro e w2 ⟨rfl, rfl⟩
        rw [HC.out]
        go_wp2_with fail
        go_ret
        exact ⟨rfl, K1.out⟩
      · have hd : decide (a < 0) = true := decide_eq_true (by omega)
        rw [hd] at HC
        have q1 : (a == 0) = false := by simp; omega
        clear hd a0
        go_enter Try.func4, Try.ntmps4
        go_wp2_with fail
        refine (known_any _).mono ?_
        rintro e w0 ⟨rfl, k0⟩
        have K0 := Lib.hid k0
        clear k0
        go_wp2_with fail
        refine (HO.out _).mono ?_
        rintro e w1 ⟨rfl, hk⟩
        have K1 := Lib.hid (K0.out.trans hk)
        clear hk
        go_wp2_with fail
        refine (class_any z _).mono ?_
        rintro e w2 ⟨rfl, rfl⟩
        rw [HC.out]
        go_wp2_with fail
        go_ret
        exact ⟨rfl, K1.out⟩
  · have q2 : (b == 0) = false := by simp; omega
    by_cases a0 : a = 0
    · subst a0
      have hO := of_word 0 b _ 0 (by decide) (zero_of b0 nb)
      have hc := cls_word (decide (b < 0)) (R := 0) (by decide)
      rw [if_pos rfl] at hc
      have HO := Lib.hid hO
      have HC := Lib.hid hc
      clear hO hc na nb
      generalize Ieee.double.word (decide (b < 0)) 0 = z at HO HC
      by_cases bn : b < 0
      · have hd : decide (b < 0) = true := decide_eq_true bn
        rw [hd] at HC
        clear hd b0
        go_enter Try.func4, Try.ntmps4
        go_wp2_with fail
        refine (known_any _).mono ?_
        rintro e w0 ⟨rfl, k0⟩
        have K0 := Lib.hid k0
        clear k0
        go_wp2_with fail
        refine (HO.out _).mono ?_
        rintro e w1 ⟨rfl, hk⟩
        have K1 := Lib.hid (K0.out.trans hk)
        clear hk
        go_wp2_with fail
        refine (class_any z _).mono ?_
        rintro e w2 ⟨rfl, rfl⟩
        rw [HC.out]
        go_wp2_with fail
        go_ret
        exact ⟨rfl, K1.out⟩
      · have hd : decide (b < 0) = false := decide_eq_false bn
        rw [hd] at HC
        clear hd b0
        go_enter Try.func4, Try.ntmps4
        go_wp2_with fail
        refine (known_any _).mono ?_
        rintro e w0 ⟨rfl, k0⟩
        have K0 := Lib.hid k0
        clear k0
        go_wp2_with fail
        refine (HO.out _).mono ?_
        rintro e w1 ⟨rfl, hk⟩
        have K1 := Lib.hid (K0.out.trans hk)
        clear hk
        go_wp2_with fail
        refine (class_any z _).mono ?_
        rintro e w2 ⟨rfl, rfl⟩
        rw [HC.out]
        go_wp2_with fail
        go_ret
        exact ⟨rfl, K1.out⟩
    · obtain ⟨R, R0, R1, hR⟩ := of_real a0 b0 na nb
      have hO := of_word a b _ R (Nat.le_of_lt R1) hR
      have hQ := ratio_word a b _ R hR
      have hc := cls_word (decide (a < 0) ^^ decide (b < 0)) (Nat.le_of_lt R1)
      rw [if_neg (by omega), if_neg (by omega)] at hc
      have HO := Lib.hid hO
      have HQ := Lib.hid hQ
      have HC := Lib.hid hc
      have q1 : (a == 0) = false := by simp; omega
      obtain ⟨z, hz⟩ : ∃ z, Ieee.double.word (decide (a < 0) ^^ decide (b < 0)) R = z := ⟨_, rfl⟩
      rw [hz] at HO HQ HC
      have HA := Lib.hid (alike_any z z)
      clear hO hQ hc na nb hR hz R0 R1
      by_cases sg : (decide (a < 0) ^^ decide (b < 0)) = true
      · have d1 : (!(decide (0 < a) == decide (0 < b))) = true := by
          by_cases g : a < 0 <;> by_cases k : b < 0 <;> by_cases g2 : 0 < a <;> by_cases k2 : 0 < b <;> simp [g, k, g2, k2] at sg ⊢ <;> omega
        rw [sg] at HC
        clear sg a0 b0
        go_enter Try.func4, Try.ntmps4
        go_wp2_with fail
        refine (known_any _).mono ?_
        rintro e w0 ⟨rfl, k0⟩
        have K0 := Lib.hid k0
        clear k0
        go_wp2_with fail
        refine (HO.out _).mono ?_
        rintro e w1 ⟨rfl, hk⟩
        have K1 := Lib.hid (K0.out.trans hk)
        clear hk
        go_wp2_with fail
        refine (class_any z _).mono ?_
        rintro e w2 ⟨rfl, rfl⟩
        rw [HC.out]
        go_wp2_with fail
        refine (HQ.out _).mono ?_
        rintro e w3 ⟨rfl, hk⟩
        have K3 := Lib.hid (K1.out.trans hk)
        clear hk
        go_wp2_with fail
        refine (HA.out _).mono ?_
        rintro e w4 h
        obtain ⟨rfl, hk⟩ := h.kept
        rw [show decide (cp z z = 0) = true from decide_eq_true (cp_self _)]
        have K4 := Lib.hid (K3.out.trans hk)
        clear h hk
        go_wp2_with fail
        go_ret
        exact ⟨rfl, K4.out⟩
      · have d1 : (!(decide (0 < a) == decide (0 < b))) = false := by
          by_cases g : a < 0 <;> by_cases k : b < 0 <;> by_cases g2 : 0 < a <;> by_cases k2 : 0 < b <;> simp [g, k, g2, k2] at sg ⊢ <;> omega
        rw [Bool.not_eq_true] at sg
        rw [sg] at HC
        clear sg a0 b0
        go_enter Try.func4, Try.ntmps4
        go_wp2_with fail
        refine (known_any _).mono ?_
        rintro e w0 ⟨rfl, k0⟩
        have K0 := Lib.hid k0
        clear k0
        go_wp2_with fail
        refine (HO.out _).mono ?_
        rintro e w1 ⟨rfl, hk⟩
        have K1 := Lib.hid (K0.out.trans hk)
        clear hk
        go_wp2_with fail
        refine (class_any z _).mono ?_
        rintro e w2 ⟨rfl, rfl⟩
        rw [HC.out]
        go_wp2_with fail
        refine (HQ.out _).mono ?_
        rintro e w3 ⟨rfl, hk⟩
        have K3 := Lib.hid (K1.out.trans hk)
        clear hk
        go_wp2_with fail
        refine (HA.out _).mono ?_
        rintro e w4 h
        obtain ⟨rfl, hk⟩ := h.kept
        rw [show decide (cp z z = 0) = true from decide_eq_true (cp_self _)]
        have K4 := Lib.hid (K3.out.trans hk)
        clear h hk
        go_wp2_with fail
        go_ret
        exact ⟨rfl, K4.out⟩

end Go.Proofs.Ythmpkelnmlkbiaa
