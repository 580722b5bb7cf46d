/- RatioShares: of whole numbers the one that has more of the same whole is ahead. -/
import Derived.Test.YthmpkelnmlkbiaaRatioOf
import Derived.Test.YthmpkelnmlkbiaaFltShare
namespace Go.Proofs.Ythmpkelnmlkbiaa
open Go.RowKit
set_option linter.unusedVariables false

theorem bounds_u32 {n : Int} (h : (Lit.int .u32 n).wf = true) : 0 ≤ n ∧ n ≤ 4294967295 := by
  simp only [Lit.wf, IntKind.min, IntKind.max, decide_eq_true_eq] at h
  simpa [IntKind.signed, IntKind.bits] using h

theorem mean_one {R : Nat} (h : R < INF) {r : Nat} (hr : nrm r = meanN [Ieee.double.word false R]) : r = Ieee.double.word false R := by
  have : meanN [Ieee.double.word false R] = some (Ieee.double.word false R) := by
    unfold meanN
    rw [if_neg (by simp)]
    show (addN (some 0) (Ieee.double.word false R)).bind (fun s => Ieee.double.div s (floatOfInt .f64 1)) = _
    show (Ieee.double.add 0 (Ieee.double.word false R)).bind (fun s => Ieee.double.div s (floatOfInt .f64 1)) = _
    rw [zero_add_word h]
    exact by_one h
  rw [this] at hr
  exact (nrm_some.1 hr).2

theorem cp_word {R S : Nat} (hR : R < INF) (hS : S < INF) : cp (Ieee.double.word false R) (Ieee.double.word false S) = if R < S then -1 else if R = S then 0 else 1 := by
  unfold cp
  rw [key_word false (Nat.le_of_lt hR), key_word false (Nat.le_of_lt hS)]
  simp only [Bool.false_eq_true, if_false]
  by_cases h : R < S
  · rw [if_pos h, if_pos (by omega)]
  · rw [if_neg h, if_neg (by omega)]
    by_cases g : R = S
    · rw [if_pos g, if_pos (by omega)]
    · rw [if_neg g, if_neg (by omega)]

set_option maxHeartbeats 1600000 in
/-- The walk, over what the three numbers come to. -/
theorem shares_way (A B N : Nat) (x y k d : Nat → Int) (z v : Nat) (w : World) (hA : A < 4294967296) (hB : B < 4294967296) (hN : N < 4294967296) (hz : z < TOP)
    (O1 : ∀ w, Calls Try.prog 18 #[.int .i64 A, .int .i64 (1 + (N : Int))] w fun e w' => e = .returned (.float .f64 z) ∧ Kept w w')
    (O2 : ∀ w, Calls Try.prog 18 #[.int .i64 B, .int .i64 (1 + (N : Int))] w fun e w' => e = .returned (.float .f64 v) ∧ Kept w w')
    (hc : cp z v = if A < B then -1 else if A = B then 0 else 1) (k1 : 3 ≤ cls z) (k2 : cls z ≤ 4) (hd : cp z 4607182418800017408 ≤ 0 ↔ (A : Int) ≤ 1 + N) (hm : ∀ r, nrm r = meanN [z] → r = z) :
    Calls Try.prog 8 #[.int .u32 A, .int .u32 B, .int .u32 N] w fun e w' => e = .returned (.bool true) ∧ Below w.heap.size w w' := by
  have P1 := Lib.hid O1
  have P2 := Lib.hid O2
  have C1 := Lib.hid (compare_any z v)
  have C2 := Lib.hid (class_any z)
  have C3 := Lib.hid (compare_any z 4607182418800017408)
  have C4 := Lib.hid (rcompare_any z z)
  have HM := Lib.hid hm
  have HZ := Lib.hid hz
  have E0 := Lib.hid (cp_self z)
  obtain ⟨c, ec⟩ : ∃ c, cp z v = c := ⟨_, rfl⟩
  obtain ⟨q, eq⟩ : ∃ c, cls z = c := ⟨_, rfl⟩
  obtain ⟨g, eg⟩ : ∃ c, cp z 4607182418800017408 = c := ⟨_, rfl⟩
  rw [ec] at hc
  rw [eq] at k1 k2
  rw [eg] at hd
  have EC := Lib.hid ec
  have EQ := Lib.hid eq
  have EG := Lib.hid eg
  clear ec eq eg hm hz O1 O2 x y k d
  have wA : wrap64 (A : Int) = A := by unfold wrap64; omega
  have wB : wrap64 (B : Int) = B := by unfold wrap64; omega
  have wN : wrap64 (N : Int) = N := by unfold wrap64; omega
  have hdd : (decide (g ≤ 0) == decide ((A : Int) ≤ 1 + N)) = true := by
    by_cases h : g ≤ 0
    · simp [h, hd.1 h]
    · have : ¬ (A : Int) ≤ 1 + N := fun e => h (hd.2 e)
      simp [h, this]
  clear hd
  rcases Nat.lt_trichotomy A B with hab | hab | hab
  · rw [if_pos hab] at hc
    have h1 : (A : Int) < B := by omega
    subst hc
    clear hab
    go_enter Try.func8, Try.ntmps8
    go_wp2_with fail
    refine (known_any _).mono ?_
    rintro e w0 ⟨rfl, k0⟩
    have K0 := Lib.hid k0
    clear k0
    go_wp2_with fail
    refine (P1.out _).mono ?_
    rintro e w1 ⟨rfl, hk⟩
    have K1 := Lib.hid (K0.out.trans hk)
    clear hk
    go_wp2_with fail
    refine (P2.out _).mono ?_
    rintro e w2 ⟨rfl, hk⟩
    have K2 := Lib.hid (K1.out.trans hk)
    clear hk
    go_wp2_with fail
    refine (C1.out _).mono ?_
    rintro e w3 h
    obtain ⟨rfl, hk⟩ := h.kept
    rw [EC.out]
    have K3 := Lib.hid (K2.out.trans hk)
    clear h hk
    go_wp2_with fail
    refine (C2.out _).mono ?_
    rintro e w4 ⟨rfl, rfl⟩
    rw [EQ.out]
    go_wp2_with fail
    refine (C2.out _).mono ?_
    rintro e w5 ⟨rfl, rfl⟩
    rw [EQ.out]
    go_wp2_with fail
    refine (C3.out _).mono ?_
    rintro e w6 h
    obtain ⟨rfl, hk⟩ := h.kept
    rw [EG.out]
    have K6 := Lib.hid (K3.out.trans hk)
    clear h hk
    go_wp2_with fail
    refine (mean_any (some ⟨w6.heap.size, 0, none⟩) 1 1 [z] _ (frow_w (frow_new w6 22 [z] (fun x hx => by simp at hx; subst hx; exact HZ.out) (by simp)) rfl rfl)).mono ?_
    rintro e w7 ⟨r, rfl, hr, _, hk⟩
    rw [HM.out r hr]
    have K7 := Lib.hid ((K6.out.trans (Kept.one _ _ _)).trans hk)
    clear hk hr
    go_wp2_with fail
    refine (C4.out _).mono ?_
    rintro e w8 h
    obtain ⟨rfl, hk⟩ := h.kept
    rw [E0.out]
    have K8 := Lib.hid (K7.out.trans hk)
    clear h hk
    go_wp2_with fail
    go_ret
    exact ⟨rfl, K8.out⟩
  · rw [if_neg (by omega), if_pos hab] at hc
    have h1 : ¬ (A : Int) < B := by omega
    have h2 : ¬ (B : Int) < A := by omega
    subst hc
    clear hab
    go_enter Try.func8, Try.ntmps8
    go_wp2_with fail
    refine (known_any _).mono ?_
    rintro e w0 ⟨rfl, k0⟩
    have K0 := Lib.hid k0
    clear k0
    go_wp2_with fail
    refine (P1.out _).mono ?_
    rintro e w1 ⟨rfl, hk⟩
    have K1 := Lib.hid (K0.out.trans hk)
    clear hk
    go_wp2_with fail
    refine (P2.out _).mono ?_
    rintro e w2 ⟨rfl, hk⟩
    have K2 := Lib.hid (K1.out.trans hk)
    clear hk
    go_wp2_with fail
    refine (C1.out _).mono ?_
    rintro e w3 h
    obtain ⟨rfl, hk⟩ := h.kept
    rw [EC.out]
    have K3 := Lib.hid (K2.out.trans hk)
    clear h hk
    go_wp2_with fail
    refine (C2.out _).mono ?_
    rintro e w4 ⟨rfl, rfl⟩
    rw [EQ.out]
    go_wp2_with fail
    refine (C2.out _).mono ?_
    rintro e w5 ⟨rfl, rfl⟩
    rw [EQ.out]
    go_wp2_with fail
    refine (C3.out _).mono ?_
    rintro e w6 h
    obtain ⟨rfl, hk⟩ := h.kept
    rw [EG.out]
    have K6 := Lib.hid (K3.out.trans hk)
    clear h hk
    go_wp2_with fail
    refine (mean_any (some ⟨w6.heap.size, 0, none⟩) 1 1 [z] _ (frow_w (frow_new w6 22 [z] (fun x hx => by simp at hx; subst hx; exact HZ.out) (by simp)) rfl rfl)).mono ?_
    rintro e w7 ⟨r, rfl, hr, _, hk⟩
    rw [HM.out r hr]
    have K7 := Lib.hid ((K6.out.trans (Kept.one _ _ _)).trans hk)
    clear hk hr
    go_wp2_with fail
    refine (C4.out _).mono ?_
    rintro e w8 h
    obtain ⟨rfl, hk⟩ := h.kept
    rw [E0.out]
    have K8 := Lib.hid (K7.out.trans hk)
    clear h hk
    go_wp2_with fail
    go_ret
    exact ⟨rfl, K8.out⟩
  · rw [if_neg (by omega), if_neg (by omega)] at hc
    have h1 : ¬ (A : Int) < B := by omega
    have h2 : (B : Int) < A := by omega
    subst hc
    clear hab
    go_enter Try.func8, Try.ntmps8
    go_wp2_with fail
    refine (known_any _).mono ?_
    rintro e w0 ⟨rfl, k0⟩
    have K0 := Lib.hid k0
    clear k0
    go_wp2_with fail
    refine (P1.out _).mono ?_
    rintro e w1 ⟨rfl, hk⟩
    have K1 := Lib.hid (K0.out.trans hk)
    clear hk
    go_wp2_with fail
    refine (P2.out _).mono ?_
    rintro e w2 ⟨rfl, hk⟩
    have K2 := Lib.hid (K1.out.trans hk)
    clear hk
    go_wp2_with fail
    refine (C1.out _).mono ?_
    rintro e w3 h
    obtain ⟨rfl, hk⟩ := h.kept
    rw [EC.out]
    have K3 := Lib.hid (K2.out.trans hk)
    clear h hk
    go_wp2_with fail
    refine (C2.out _).mono ?_
    rintro e w4 ⟨rfl, rfl⟩
    rw [EQ.out]
    go_wp2_with fail
    refine (C2.out _).mono ?_
    rintro e w5 ⟨rfl, rfl⟩
    rw [EQ.out]
    go_wp2_with fail
    refine (C3.out _).mono ?_
    rintro e w6 h
    obtain ⟨rfl, hk⟩ := h.kept
    rw [EG.out]
    have K6 := Lib.hid (K3.out.trans hk)
    clear h hk
    go_wp2_with fail
    refine (mean_any (some ⟨w6.heap.size, 0, none⟩) 1 1 [z] _ (frow_w (frow_new w6 22 [z] (fun x hx => by simp at hx; subst hx; exact HZ.out) (by simp)) rfl rfl)).mono ?_
    rintro e w7 ⟨r, rfl, hr, _, hk⟩
    rw [HM.out r hr]
    have K7 := Lib.hid ((K6.out.trans (Kept.one _ _ _)).trans hk)
    clear hk hr
    go_wp2_with fail
    refine (C4.out _).mono ?_
    rintro e w8 h
    obtain ⟨rfl, hk⟩ := h.kept
    rw [E0.out]
    have K8 := Lib.hid (K7.out.trans hk)
    clear h hk
    go_wp2_with fail
    go_ret
    exact ⟨rfl, K8.out⟩

theorem ratioShares_walk (a b n : Int) (w : World) (ha : (Lit.int .u32 a).wf = true) (hb : (Lit.int .u32 b).wf = true) (hn : (Lit.int .u32 n).wf = true) :
    Calls Try.prog 8 #[.int .u32 a, .int .u32 b, .int .u32 n] w fun e w' => e = .returned (.bool true) ∧ Below w.heap.size w w' := by
  have ha' := bounds_u32 ha
  have hb' := bounds_u32 hb
  have hn' := bounds_u32 hn
  obtain ⟨A, rfl⟩ := Int.eq_ofNat_of_zero_le ha'.1
  obtain ⟨B, rfl⟩ := Int.eq_ofNat_of_zero_le hb'.1
  obtain ⟨N, rfl⟩ := Int.eq_ofNat_of_zero_le hn'.1
  obtain ⟨R, pR, dR⟩ := part_rung A (1 + N) (by omega) (by omega) (by omega)
  obtain ⟨S, pS, dS⟩ := part_rung B (1 + N) (by omega) (by omega) (by omega)
  have e1 : ((1 + N : Nat) : Int) = 1 + (N : Int) := by simp
  rw [e1] at dR dS
  have fin := pR.fin
  have hcl := cls_word false (Nat.le_of_lt fin)
  have hone : cp (Ieee.double.word false R) 4607182418800017408 = if R < ONE then -1 else if R = ONE then 0 else 1 := by
    have e2 : (4607182418800017408 : Nat) = Ieee.double.word false ONE := by decide +kernel
    rw [e2]
    exact cp_word fin (by decide)
  refine shares_way A B N (fun _ => 0) (fun _ => 0) (fun _ => 0) (fun _ => 0) (Ieee.double.word false R) (Ieee.double.word false S) w (by omega) (by omega) (by omega) (word_nan false (Nat.le_of_lt fin)).2.1 (of_k _ _ _ dR) (of_k _ _ _ dS) ?_ ?_ ?_ ?_ (fun r hr => mean_one fin hr)
  · rw [cp_word fin pS.fin]
    rcases Nat.lt_trichotomy A B with h | h | h
    · have := part_lt pR pS (by omega) (by omega) (by omega) h
      rw [if_pos this, if_pos h]
    · subst h
      rw [dR] at dS
      have : R = S := by
        have h2 := Option.some.inj dS
        have a1 := (word_nan false (Nat.le_of_lt fin)).2.2.1
        have a2 := (word_nan false (Nat.le_of_lt pS.fin)).2.2.1
        rw [h2, a2] at a1; exact a1.symm
      rw [if_neg (by omega), if_pos this, if_neg (by omega), if_pos rfl]
    · have := part_lt pS pR (by omega) (by omega) (by omega) h
      rw [if_neg (by omega), if_neg (by omega), if_neg (by omega), if_neg (by omega)]
  · rw [hcl]
    by_cases h : R = 0
    · rw [if_pos h]; decide
    · rw [if_neg h, if_neg (by omega)]; decide
  · rw [hcl]
    by_cases h : R = 0
    · rw [if_pos h]; decide
    · rw [if_neg h, if_neg (by omega)]; decide
  · have := part_one pR (by omega) (by omega) (by omega)
    rw [hone]
    by_cases h : R < ONE
    · rw [if_pos h]
      have := this.1 (by omega)
      simp; omega
    · rw [if_neg h]
      by_cases g : R = ONE
      · rw [if_pos g]
        have := this.1 (by omega)
        simp; omega
      · rw [if_neg g]
        have : ¬ A ≤ 1 + N := fun k => by have := this.2 k; omega
        simp; omega

end Go.Proofs.Ythmpkelnmlkbiaa
