/- ResSums, walked. -/
import Derived.Test.YtppbbgppooblfaaDoorResC
namespace Go.Proofs.YtppbbgppooblfaaDoor.Vec
open Go.RowKit
set_option linter.unusedVariables false

set_option maxRecDepth 100000 in
set_option maxHeartbeats 4000000 in
theorem ResSums_walk (va vb vc : Value) (lA lB lC : V) (w : World) (hE : EnvT w) (hA : Reads w va lA) (hB : Reads w vb lB) (hC : Reads w vc lC) :
    Calls Tryd.prog 3 #[va, vb, vc] w fun e w' => e = .returned (.bool true) ∧ Kept w w' := by
  have HK := Lib.hid (known_any w hE)
  have HA := Lib.hid hA
  have HB := Lib.hid hB
  have HC := Lib.hid hC
  have HE := Lib.hid hE
  clear hE hA hB hC
  go_enter Tryd.func3, Tryd.ntmps3
  go_wp2_with fail
  refine HK.out.mono ?_
  rintro e w0 ⟨rfl, hk⟩
  have K := Lib.hid hk
  have HA := Lib.hid (HA.out.kept hk)
  have HB := Lib.hid (HB.out.kept hk)
  have HC := Lib.hid (HC.out.kept hk)
  clear hk
  go_wp2_with fail
  by_cases fA : ¬ fewV lA = true
  · have fA' : fewV lA = false := by simpa using fA
    refine (fewR HA.out fA').mono ?_
    rintro e w1 ⟨rfl, rfl⟩
    go_wp2
    go_ret
    exact ⟨rfl, K.out⟩
  have FA := Lib.hid (Decidable.of_not_not fA)
  clear fA
  refine (fewR HA.out FA.out).mono ?_
  rintro e w2 ⟨rfl, rfl⟩
  go_wp2_with fail
  by_cases fB : ¬ fewV lB = true
  · have fB' : fewV lB = false := by simpa using fB
    refine (fewR HB.out fB').mono ?_
    rintro e w3 ⟨rfl, rfl⟩
    go_wp2
    go_ret
    exact ⟨rfl, K.out⟩
  have FB := Lib.hid (Decidable.of_not_not fB)
  clear fB
  refine (fewR HB.out FB.out).mono ?_
  rintro e w4 ⟨rfl, rfl⟩
  go_wp2_with fail
  by_cases fC : ¬ fewV lC = true
  · have fC' : fewV lC = false := by simpa using fC
    refine (fewR HC.out fC').mono ?_
    rintro e w5 ⟨rfl, rfl⟩
    go_wp2
    go_ret
    exact ⟨rfl, K.out⟩
  have FC := Lib.hid (Decidable.of_not_not fC)
  clear fC
  refine (fewR HC.out FC.out).mono ?_
  rintro e w6 ⟨rfl, rfl⟩
  go_wp2_with fail
  refine (ofR HA.out FA.out).mono ?_
  rintro e w7 ⟨x7, rfl, hr, hk⟩
  have K := Lib.hid (K.out.trans hk)
  have HA := Lib.hid (HA.out.kept hk)
  have HB := Lib.hid (HB.out.kept hk)
  have HC := Lib.hid (HC.out.kept hk)
  clear hk
  have YA := Lib.hid hr
  clear hr
  go_wp2_with fail
  by_cases cA : ¬ checkV lA = 0
  · obtain ⟨c, hc⟩ : ∃ c, checkV lA = c := ⟨_, rfl⟩
    have hc0 : (c == 0) = false := by rw [← hc]; simpa using cA
    refine (refCheckR YA.out hc).mono ?_
    rintro e w8 ⟨rfl, hk⟩
    have K := Lib.hid (K.out.trans hk)
    have HA := Lib.hid (HA.out.kept hk)
    have HB := Lib.hid (HB.out.kept hk)
    have HC := Lib.hid (HC.out.kept hk)
    have YA := Lib.hid (YA.out.kept hk)
    clear hk
    go_wp2
    go_ret
    exact ⟨rfl, K.out⟩
  have CA := Lib.hid (Decidable.of_not_not cA)
  clear cA
  refine (refCheckR YA.out CA.out).mono ?_
  rintro e w9 ⟨rfl, hk⟩
  have K := Lib.hid (K.out.trans hk)
  have HA := Lib.hid (HA.out.kept hk)
  have HB := Lib.hid (HB.out.kept hk)
  have HC := Lib.hid (HC.out.kept hk)
  have YA := Lib.hid (YA.out.kept hk)
  clear hk
  clear YA
  go_wp2_with fail
  refine (ofR HB.out FB.out).mono ?_
  rintro e w10 ⟨x10, rfl, hr, hk⟩
  have K := Lib.hid (K.out.trans hk)
  have HA := Lib.hid (HA.out.kept hk)
  have HB := Lib.hid (HB.out.kept hk)
  have HC := Lib.hid (HC.out.kept hk)
  clear hk
  have YB := Lib.hid hr
  clear hr
  go_wp2_with fail
  by_cases cB : ¬ checkV lB = 0
  · obtain ⟨c, hc⟩ : ∃ c, checkV lB = c := ⟨_, rfl⟩
    have hc0 : (c == 0) = false := by rw [← hc]; simpa using cB
    refine (refCheckR YB.out hc).mono ?_
    rintro e w11 ⟨rfl, hk⟩
    have K := Lib.hid (K.out.trans hk)
    have HA := Lib.hid (HA.out.kept hk)
    have HB := Lib.hid (HB.out.kept hk)
    have HC := Lib.hid (HC.out.kept hk)
    have YB := Lib.hid (YB.out.kept hk)
    clear hk
    go_wp2
    go_ret
    exact ⟨rfl, K.out⟩
  have CB := Lib.hid (Decidable.of_not_not cB)
  clear cB
  refine (refCheckR YB.out CB.out).mono ?_
  rintro e w12 ⟨rfl, hk⟩
  have K := Lib.hid (K.out.trans hk)
  have HA := Lib.hid (HA.out.kept hk)
  have HB := Lib.hid (HB.out.kept hk)
  have HC := Lib.hid (HC.out.kept hk)
  have YB := Lib.hid (YB.out.kept hk)
  clear hk
  clear YB
  go_wp2_with fail
  refine (ofR HC.out FC.out).mono ?_
  rintro e w13 ⟨x13, rfl, hr, hk⟩
  have K := Lib.hid (K.out.trans hk)
  have HA := Lib.hid (HA.out.kept hk)
  have HB := Lib.hid (HB.out.kept hk)
  have HC := Lib.hid (HC.out.kept hk)
  clear hk
  have YC := Lib.hid hr
  clear hr
  go_wp2_with fail
  by_cases cC : ¬ checkV lC = 0
  · obtain ⟨c, hc⟩ : ∃ c, checkV lC = c := ⟨_, rfl⟩
    have hc0 : (c == 0) = false := by rw [← hc]; simpa using cC
    refine (refCheckR YC.out hc).mono ?_
    rintro e w14 ⟨rfl, hk⟩
    have K := Lib.hid (K.out.trans hk)
    have HA := Lib.hid (HA.out.kept hk)
    have HB := Lib.hid (HB.out.kept hk)
    have HC := Lib.hid (HC.out.kept hk)
    have YC := Lib.hid (YC.out.kept hk)
    clear hk
    go_wp2
    go_ret
    exact ⟨rfl, K.out⟩
  have CC := Lib.hid (Decidable.of_not_not cC)
  clear cC
  refine (refCheckR YC.out CC.out).mono ?_
  rintro e w15 ⟨rfl, hk⟩
  have K := Lib.hid (K.out.trans hk)
  have HA := Lib.hid (HA.out.kept hk)
  have HB := Lib.hid (HB.out.kept hk)
  have HC := Lib.hid (HC.out.kept hk)
  have YC := Lib.hid (YC.out.kept hk)
  clear hk
  clear YC
  go_wp2_with fail
  have GA := Lib.hid (check_good CA.out HA.out.fine)
  have NA := Lib.hid (check_len CA.out)
  have GB := Lib.hid (check_good CB.out HB.out.fine)
  have NB := Lib.hid (check_len CB.out)
  have GC := Lib.hid (check_good CC.out HC.out.fine)
  have NC := Lib.hid (check_len CC.out)
  obtain ⟨c, m, hcm⟩ : ∃ c m, mergedV addF lA lB = (c, m) := ⟨_, _, rfl⟩
  have HCM := Lib.hid hcm
  have HCN := Lib.hid ((add_comm' GA.out GB.out NA.out NB.out).trans hcm)
  clear hcm
  refine (addR HA.out HB.out HCM.out).mono ?_
  rintro e w16 ⟨x16, rfl, hr, hk⟩
  have K := Lib.hid (K.out.trans hk)
  have HA := Lib.hid (HA.out.kept hk)
  have HB := Lib.hid (HB.out.kept hk)
  have HC := Lib.hid (HC.out.kept hk)
  clear hk
  have X := Lib.hid hr
  clear hr
  go_wp2_with fail
  refine (addR HB.out HA.out HCN.out).mono ?_
  rintro e w17 ⟨x17, rfl, hr, hk⟩
  have K := Lib.hid (K.out.trans hk)
  have HA := Lib.hid (HA.out.kept hk)
  have HB := Lib.hid (HB.out.kept hk)
  have HC := Lib.hid (HC.out.kept hk)
  have X := Lib.hid (X.out.kept hk)
  clear hk
  have Y := Lib.hid hr
  clear hr
  go_wp2_with fail
  refine (sameR X.out Y.out (same_self m)).mono ?_
  rintro e w18 ⟨rfl, hk⟩
  have K := Lib.hid (K.out.trans hk)
  have HA := Lib.hid (HA.out.kept hk)
  have HB := Lib.hid (HB.out.kept hk)
  have HC := Lib.hid (HC.out.kept hk)
  have X := Lib.hid (X.out.kept hk)
  have Y := Lib.hid (Y.out.kept hk)
  clear hk
  clear Y
  by_cases c0 : ¬ c = 0
  · have hc0 : (c == 0) = false := by simpa using c0
    go_wp2
    go_ret
    exact ⟨rfl, K.out⟩
  have c1 := Decidable.of_not_not c0
  subst c1
  clear c0 HCN
  have FX := Lib.hid (fits_add GA.out GB.out NA.out NB.out HCM.out)
  go_wp2_with fail
  refine (subR X.out HB.out (sub_add GA.out GB.out NA.out NB.out HCM.out)).mono ?_
  rintro e w19 ⟨x19, rfl, hr, hk⟩
  have K := Lib.hid (K.out.trans hk)
  have HA := Lib.hid (HA.out.kept hk)
  have HB := Lib.hid (HB.out.kept hk)
  have HC := Lib.hid (HC.out.kept hk)
  have X := Lib.hid (X.out.kept hk)
  clear hk
  have D := Lib.hid hr
  clear hr
  go_wp2_with fail
  refine (sameR D.out HA.out (same_self _)).mono ?_
  rintro e w20 ⟨rfl, hk⟩
  have K := Lib.hid (K.out.trans hk)
  have HA := Lib.hid (HA.out.kept hk)
  have HB := Lib.hid (HB.out.kept hk)
  have HC := Lib.hid (HC.out.kept hk)
  have X := Lib.hid (X.out.kept hk)
  have D := Lib.hid (D.out.kept hk)
  clear hk
  clear D
  go_wp2_with fail
  refine (fitsR HA.out X.out FX.out.1).mono ?_
  rintro e w21 ⟨rfl, hk⟩
  have K := Lib.hid (K.out.trans hk)
  have HA := Lib.hid (HA.out.kept hk)
  have HB := Lib.hid (HB.out.kept hk)
  have HC := Lib.hid (HC.out.kept hk)
  have X := Lib.hid (X.out.kept hk)
  clear hk
  go_wp2_with fail
  refine (fitsR HB.out X.out FX.out.2.1).mono ?_
  rintro e w22 ⟨rfl, hk⟩
  have K := Lib.hid (K.out.trans hk)
  have HA := Lib.hid (HA.out.kept hk)
  have HB := Lib.hid (HB.out.kept hk)
  have HC := Lib.hid (HC.out.kept hk)
  have X := Lib.hid (X.out.kept hk)
  clear hk
  go_wp2_with fail
  refine (checkR X.out FX.out.2.2.2.2).mono ?_
  rintro e w23 ⟨rfl, hk⟩
  have K := Lib.hid (K.out.trans hk)
  have HA := Lib.hid (HA.out.kept hk)
  have HB := Lib.hid (HB.out.kept hk)
  have HC := Lib.hid (HC.out.kept hk)
  have X := Lib.hid (X.out.kept hk)
  clear hk
  go_wp2_with fail
  obtain ⟨c2, p, hp⟩ : ∃ c p, mergedV addF m lC = (c, p) := ⟨_, _, rfl⟩
  obtain ⟨c3, q, hq⟩ : ∃ c q, mergedV addF lB lC = (c, q) := ⟨_, _, rfl⟩
  have HP := Lib.hid hp
  have HQ := Lib.hid hq
  clear hp hq
  refine (addR X.out HC.out HP.out).mono ?_
  rintro e w24 ⟨x24, rfl, hr, hk⟩
  have K := Lib.hid (K.out.trans hk)
  have HA := Lib.hid (HA.out.kept hk)
  have HB := Lib.hid (HB.out.kept hk)
  have HC := Lib.hid (HC.out.kept hk)
  have X := Lib.hid (X.out.kept hk)
  clear hk
  have P := Lib.hid hr
  clear hr
  go_wp2_with fail
  refine (addR HB.out HC.out HQ.out).mono ?_
  rintro e w25 ⟨x25, rfl, hr, hk⟩
  have K := Lib.hid (K.out.trans hk)
  have HA := Lib.hid (HA.out.kept hk)
  have HB := Lib.hid (HB.out.kept hk)
  have HC := Lib.hid (HC.out.kept hk)
  have X := Lib.hid (X.out.kept hk)
  have P := Lib.hid (P.out.kept hk)
  clear hk
  have Q := Lib.hid hr
  clear hr
  by_cases c0 : ¬ c2 = 0
  · have hc0 : (c2 == 0) = false := by simpa using c0
    go_wp2
    go_ret
    exact ⟨rfl, K.out⟩
  have c1 := Decidable.of_not_not c0
  subst c1
  clear c0
  by_cases c0 : ¬ c3 = 0
  · have hc0 : (c3 == 0) = false := by simpa using c0
    go_wp2
    go_ret
    exact ⟨rfl, K.out⟩
  have c1 := Decidable.of_not_not c0
  subst c1
  clear c0
  go_wp2_with fail
  refine (addR HA.out Q.out (add_assoc' GA.out GB.out GC.out NA.out NB.out NC.out HCM.out HP.out HQ.out)).mono ?_
  rintro e w26 ⟨x26, rfl, hr, hk⟩
  have K := Lib.hid (K.out.trans hk)
  have HA := Lib.hid (HA.out.kept hk)
  have HB := Lib.hid (HB.out.kept hk)
  have HC := Lib.hid (HC.out.kept hk)
  have X := Lib.hid (X.out.kept hk)
  have P := Lib.hid (P.out.kept hk)
  have Q := Lib.hid (Q.out.kept hk)
  clear hk
  have R := Lib.hid hr
  clear hr
  go_wp2_with fail
  refine (sameR P.out R.out (same_self _)).mono ?_
  rintro e w27 ⟨rfl, hk⟩
  have K := Lib.hid (K.out.trans hk)
  have HA := Lib.hid (HA.out.kept hk)
  have HB := Lib.hid (HB.out.kept hk)
  have HC := Lib.hid (HC.out.kept hk)
  have X := Lib.hid (X.out.kept hk)
  have P := Lib.hid (P.out.kept hk)
  have Q := Lib.hid (Q.out.kept hk)
  have R := Lib.hid (R.out.kept hk)
  clear hk
  go_wp2_with fail
  by_cases r0 : ¬ fitsFrom lC m = true
  · have r0' : fitsFrom lC m = false := by simpa using r0
    refine (fitsR X.out HC.out r0').mono ?_
    rintro e w28 ⟨rfl, hk⟩
    have K := Lib.hid (K.out.trans hk)
    have HA := Lib.hid (HA.out.kept hk)
    have HB := Lib.hid (HB.out.kept hk)
    have HC := Lib.hid (HC.out.kept hk)
    have X := Lib.hid (X.out.kept hk)
    have P := Lib.hid (P.out.kept hk)
    have Q := Lib.hid (Q.out.kept hk)
    have R := Lib.hid (R.out.kept hk)
    clear hk
    go_wp2
    go_ret
    exact ⟨rfl, K.out⟩
  have R0 := Lib.hid (Decidable.of_not_not r0)
  clear r0
  refine (fitsR X.out HC.out R0.out).mono ?_
  rintro e w29 ⟨rfl, hk⟩
  have K := Lib.hid (K.out.trans hk)
  have HA := Lib.hid (HA.out.kept hk)
  have HB := Lib.hid (HB.out.kept hk)
  have HC := Lib.hid (HC.out.kept hk)
  have X := Lib.hid (X.out.kept hk)
  have P := Lib.hid (P.out.kept hk)
  have Q := Lib.hid (Q.out.kept hk)
  have R := Lib.hid (R.out.kept hk)
  clear hk
  go_wp2_with fail
  refine (fitsR HA.out HC.out (fits_trans GA.out FX.out.2.2.1 GC.out FX.out.1 R0.out)).mono ?_
  rintro e w30 ⟨rfl, hk⟩
  have K := Lib.hid (K.out.trans hk)
  have HA := Lib.hid (HA.out.kept hk)
  have HB := Lib.hid (HB.out.kept hk)
  have HC := Lib.hid (HC.out.kept hk)
  have X := Lib.hid (X.out.kept hk)
  have P := Lib.hid (P.out.kept hk)
  have Q := Lib.hid (Q.out.kept hk)
  have R := Lib.hid (R.out.kept hk)
  clear hk
  go_wp2
  go_ret
  exact ⟨rfl, K.out⟩

end Go.Proofs.YtppbbgppooblfaaDoor.Vec
