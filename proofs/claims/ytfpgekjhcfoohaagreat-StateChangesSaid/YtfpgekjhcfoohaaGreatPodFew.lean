/- Whether a pod is short. -/
import Derived.Test.YtfpgekjhcfoohaaGreatShort
import Derived.Test.YtfpgekjhcfoohaaGreatPodP
import Derived.Test.YtfpgekjhcfoohaaGreatTai
import Derived.Test.YtfpgekjhcfoohaaGreatLab
set_option linter.unusedVariables false
namespace Go.Proofs.YtfpgekjhcfoohaaGreat
open Go.RowKit
set_option maxRecDepth 100000 in
set_option maxHeartbeats 8000000 in
theorem fewPd_any (n : Pd) (v1 v2 v3 v4 : Value) (w : World) (h : PodAt w v1 v2 v3 v4 n) :
 Calls Tryz.prog 17 #[PodV n v1 v2 v3 v4] w (Say (.bool (fewPd n)) w) := by
 obtain ⟨x0, x1, x2, l1, l2, l3, l4, x3, x4, x5, x6⟩ := n
 obtain ⟨W0, hW0⟩ : ∃ W0, w.alloc (.cells #[.string x0, .string x1, .int .i64 x2, v1, v2, v3, v4, .string x3, .int .i64 x4, .string x5, .bool x6] 49) = W0 := ⟨_, rfl⟩
 have hk0 : Kept w W0 := by rw [← hW0]; exact kept_alloc _ _
 have hc := freshN w (.string x0) [.string x1, .int .i64 x2, v1, v2, v3, v4, .string x3, .int .i64 x4, .string x5, .bool x6] 49 W0 (by rw [hW0]; exact Kept.refl _)
 have s0 : x0.size ≤ maxLen := h.name
 have s1 : x1.size ≤ maxLen := h.owner
 have s2 : x3.size ≤ maxLen := h.key
 have s3 : x5.size ≤ maxLen := h.node
 unfold maxLen at s0 s1 s2 s3
 obtain ⟨b0, hb0⟩ : ∃ b, decide (x0.size ≤ 50) = b := ⟨_, rfl⟩
 obtain ⟨b1, hb1⟩ : ∃ b, decide (x1.size ≤ 50) = b := ⟨_, rfl⟩
 obtain ⟨b2, hb2⟩ : ∃ b, decide (x3.size ≤ 50) = b := ⟨_, rfl⟩
 obtain ⟨b3, hb3⟩ : ∃ b, decide (x5.size ≤ 50) = b := ⟨_, rfl⟩
 obtain ⟨b4, hb4⟩ : ∃ b, Vec.fewV l1 = b := ⟨_, rfl⟩
 obtain ⟨b5, hb5⟩ : ∃ b, fewS l2 = b := ⟨_, rfl⟩
 obtain ⟨b6, hb6⟩ : ∃ b, fewL l3 = b := ⟨_, rfl⟩
 obtain ⟨b7, hb7⟩ : ∃ b, fewN l4 = b := ⟨_, rfl⟩
 have HV0 := lH (show fewPd ⟨x0, x1, x2, l1, l2, l3, l4, x3, x4, x5, x6⟩ = (b0 && (b1 && (b2 && (b3 && (b4 && (b5 && (b6 && b7))))))) by unfold fewPd; dsimp only; rw [hb0, hb1, hb2, hb3, hb4, hb5, hb6, hb7])
 have E4 := lH (show Calls Tryz.prog 54 #[v1] W0 _ from Vec.fewR (h.need.kept hk0) hb4)
 have E5 := lH (show Calls Tryz.prog 55 #[v2] W0 fun e w' => e = .returned (.bool b5) ∧ W0 = w' by rw [← hb5]; exact fewR (h.labels.kept hk0))
 have E6 := lH (show Calls Tryz.prog 56 #[v3] W0 fun e w' => e = .returned (.bool b6) ∧ W0 = w' by rw [← hb6]; exact fewSelR (h.sel.kept hk0))
 have E7 := lH (show Calls Tryz.prog 57 #[v4] W0 fun e w' => e = .returned (.bool b7) ∧ W0 = w' by rw [← hb7]; exact fewOR (h.tols.kept hk0))
 have HK0 := lH hk0
 have g0 : decide ((x0.size : Int) ≤ 50) = b0 := by rw [← hb0]; simp only [decide_eq_decide]; omega
 have g1 : decide ((x1.size : Int) ≤ 50) = b1 := by rw [← hb1]; simp only [decide_eq_decide]; omega
 have g2 : decide ((x3.size : Int) ≤ 50) = b2 := by rw [← hb2]; simp only [decide_eq_decide]; omega
 have g3 : decide ((x5.size : Int) ≤ 50) = b3 := by rw [← hb3]; simp only [decide_eq_decide]; omega
 have c0 := hc.at_ 0 _ rfl
 have c1 := hc.at_ 1 _ rfl
 have c3 := hc.at_ 3 _ rfl
 have c4 := hc.at_ 4 _ rfl
 have c5 := hc.at_ 5 _ rfl
 have c6 := hc.at_ 6 _ rfl
 have c7 := hc.at_ 7 _ rfl
 have c9 := hc.at_ 9 _ rfl
 clear hk0 h hc hb0 hb1 hb2 hb3 hb4 hb5 hb6 hb7
 unfold PodV
 dsimp only
 cases b0 with
 | false =>
  have g0 : 50 < (x0.size : Int) := by have := of_decide_eq_false g0; omega
  have HV := lH (show fewPd ⟨x0, x1, x2, l1, l2, l3, l4, x3, x4, x5, x6⟩ = false by rw [HV0.out]; simp)
  go_enter Tryz.func17, Tryz.ntmps17
  go_wp2
  try rw [hW0]
  go_ret
  exact ⟨ret_bool HV.out.symm, HK0.out⟩
 | true =>
  have g0 : (x0.size : Int) ≤ 50 := of_decide_eq_true g0
  cases b1 with
  | false =>
   have g1 : 50 < (x1.size : Int) := by have := of_decide_eq_false g1; omega
   have HV := lH (show fewPd ⟨x0, x1, x2, l1, l2, l3, l4, x3, x4, x5, x6⟩ = false by rw [HV0.out]; simp)
   go_enter Tryz.func17, Tryz.ntmps17
   go_wp2
   try rw [hW0]
   go_ret
   exact ⟨ret_bool HV.out.symm, HK0.out⟩
  | true =>
   have g1 : (x1.size : Int) ≤ 50 := of_decide_eq_true g1
   cases b2 with
   | false =>
    have g2 : 50 < (x3.size : Int) := by have := of_decide_eq_false g2; omega
    have HV := lH (show fewPd ⟨x0, x1, x2, l1, l2, l3, l4, x3, x4, x5, x6⟩ = false by rw [HV0.out]; simp)
    go_enter Tryz.func17, Tryz.ntmps17
    go_wp2
    try rw [hW0]
    go_ret
    exact ⟨ret_bool HV.out.symm, HK0.out⟩
   | true =>
    have g2 : (x3.size : Int) ≤ 50 := of_decide_eq_true g2
    cases b3 with
    | false =>
     have g3 : 50 < (x5.size : Int) := by have := of_decide_eq_false g3; omega
     have HV := lH (show fewPd ⟨x0, x1, x2, l1, l2, l3, l4, x3, x4, x5, x6⟩ = false by rw [HV0.out]; simp)
     go_enter Tryz.func17, Tryz.ntmps17
     go_wp2
     try rw [hW0]
     go_ret
     exact ⟨ret_bool HV.out.symm, HK0.out⟩
    | true =>
     have g3 : (x5.size : Int) ≤ 50 := of_decide_eq_true g3
     cases b4 with
     | false =>
      have HV := lH (show fewPd ⟨x0, x1, x2, l1, l2, l3, l4, x3, x4, x5, x6⟩ = false by rw [HV0.out]; simp)
      go_enter Tryz.func17, Tryz.ntmps17
      go_wp2_with fail
      try rw [hW0]
      refine E4.out.mono ?_
      rintro e w9 ⟨rfl, rfl⟩
      go_wp2
      go_ret
      exact ⟨ret_bool HV.out.symm, HK0.out⟩
     | true =>
      cases b5 with
      | false =>
       have HV := lH (show fewPd ⟨x0, x1, x2, l1, l2, l3, l4, x3, x4, x5, x6⟩ = false by rw [HV0.out]; simp)
       go_enter Tryz.func17, Tryz.ntmps17
       go_wp2_with fail
       try rw [hW0]
       refine E4.out.mono ?_
       rintro e w9 ⟨rfl, rfl⟩
       go_wp2_with fail
       refine E5.out.mono ?_
       rintro e w9 ⟨rfl, rfl⟩
       go_wp2
       go_ret
       exact ⟨ret_bool HV.out.symm, HK0.out⟩
      | true =>
       cases b6 with
       | false =>
        have HV := lH (show fewPd ⟨x0, x1, x2, l1, l2, l3, l4, x3, x4, x5, x6⟩ = false by rw [HV0.out]; simp)
        go_enter Tryz.func17, Tryz.ntmps17
        go_wp2_with fail
        try rw [hW0]
        refine E4.out.mono ?_
        rintro e w9 ⟨rfl, rfl⟩
        go_wp2_with fail
        refine E5.out.mono ?_
        rintro e w9 ⟨rfl, rfl⟩
        go_wp2_with fail
        refine E6.out.mono ?_
        rintro e w9 ⟨rfl, rfl⟩
        go_wp2
        go_ret
        exact ⟨ret_bool HV.out.symm, HK0.out⟩
       | true =>
        have HV := lH (show fewPd ⟨x0, x1, x2, l1, l2, l3, l4, x3, x4, x5, x6⟩ = b7 by rw [HV0.out]; rfl)
        go_enter Tryz.func17, Tryz.ntmps17
        go_wp2_with fail
        try rw [hW0]
        refine E4.out.mono ?_
        rintro e w9 ⟨rfl, rfl⟩
        go_wp2_with fail
        refine E5.out.mono ?_
        rintro e w9 ⟨rfl, rfl⟩
        go_wp2_with fail
        refine E6.out.mono ?_
        rintro e w9 ⟨rfl, rfl⟩
        go_wp2_with fail
        refine E7.out.mono ?_
        rintro e w9 ⟨rfl, rfl⟩
        go_wp2
        go_ret
        exact ⟨ret_bool HV.out.symm, HK0.out⟩
theorem fewPdR {v : Value} {n : Pd} {b : Bool} {w : World} (h : PodR w v n) (hb : fewPd n = b) : Calls Tryz.prog 17 #[v] w (Say (.bool b) w) := by
 subst hb
 obtain ⟨v1, v2, v3, v4, rfl, h⟩ := h
 exact fewPd_any n v1 v2 v3 v4 w h
end Go.Proofs.YtfpgekjhcfoohaaGreat
