/- ResFits, walked. -/
import Derived.Test.YtnnneimpdiadhaaDoorResPre
namespace Go.Proofs.YtnnneimpdiadhaaDoor.Vec
open Go.RowKit
set_option linter.unusedVariables false

set_option maxRecDepth 100000 in
set_option maxHeartbeats 4000000 in
theorem ResFits_walk (va vb vc : Value) (lA lB lC : V) (w : World) (hE : EnvT w) (hA : Reads w va lA) (hB : Reads w vb lB) (hC : Reads w vc lC) :
    Calls Tryd.prog 5 #[va, vb, vc] w fun e w' => e = .returned (.bool true) ∧ Kept w w' := by
  obtain ⟨pA, qA, eA, -⟩ := id hA
  subst eA
  obtain ⟨z, hz1⟩ : ∃ z, decide (lA.length = 0) = z := ⟨_, rfl⟩
  have hz2 : ((lA.length : Int) == 0) = z := by rw [← hz1]; by_cases h : lA.length = 0 <;> simp [h]
  have HZ := Lib.hid hz1
  clear hz1
  have HK := Lib.hid (known_any w hE)
  have HA := Lib.hid hA
  have HB := Lib.hid hB
  have HC := Lib.hid hC
  have HE := Lib.hid hE
  clear hE hA hB hC
  go_enter Tryd.func5, Tryd.ntmps5
  go_wp2_with fail
  refine HK.out.mono ?_
  rintro e w0 ⟨rfl, hk⟩
  have K := Lib.hid hk
  have HA := Lib.hid (HA.out.kept hk)
  have HB := Lib.hid (HB.out.kept hk)
  have HC := Lib.hid (HC.out.kept hk)
  clear hk
  go_wp2_with fail
  by_cases fA : ¬ fewV lA = true
  · have fA' : fewV lA = false := by simpa using fA
    refine (fewR HA.out fA').mono ?_
    rintro e w1 ⟨rfl, rfl⟩
    go_wp2
    go_ret
    exact ⟨rfl, K.out⟩
  have FA := Lib.hid (Decidable.of_not_not fA)
  clear fA
  refine (fewR HA.out FA.out).mono ?_
  rintro e w2 ⟨rfl, rfl⟩
  go_wp2_with fail
  by_cases fB : ¬ fewV lB = true
  · have fB' : fewV lB = false := by simpa using fB
    refine (fewR HB.out fB').mono ?_
    rintro e w3 ⟨rfl, rfl⟩
    go_wp2
    go_ret
    exact ⟨rfl, K.out⟩
  have FB := Lib.hid (Decidable.of_not_not fB)
  clear fB
  refine (fewR HB.out FB.out).mono ?_
  rintro e w4 ⟨rfl, rfl⟩
  go_wp2_with fail
  by_cases fC : ¬ fewV lC = true
  · have fC' : fewV lC = false := by simpa using fC
    refine (fewR HC.out fC').mono ?_
    rintro e w5 ⟨rfl, rfl⟩
    go_wp2
    go_ret
    exact ⟨rfl, K.out⟩
  have FC := Lib.hid (Decidable.of_not_not fC)
  clear fC
  refine (fewR HC.out FC.out).mono ?_
  rintro e w6 ⟨rfl, rfl⟩
  go_wp2_with fail
  refine (ofR HA.out FA.out).mono ?_
  rintro e w7 ⟨x7, rfl, hr, hk⟩
  have K := Lib.hid (K.out.trans hk)
  have HA := Lib.hid (HA.out.kept hk)
  have HB := Lib.hid (HB.out.kept hk)
  have HC := Lib.hid (HC.out.kept hk)
  clear hk
  have YA := Lib.hid hr
  clear hr
  go_wp2_with fail
  by_cases cA : ¬ checkV lA = 0
  · obtain ⟨c, hc⟩ : ∃ c, checkV lA = c := ⟨_, rfl⟩
    have hc0 : (c == 0) = false := by rw [← hc]; simpa using cA
    refine (refCheckR YA.out hc).mono ?_
    rintro e w8 ⟨rfl, hk⟩
    have K := Lib.hid (K.out.trans hk)
    have HA := Lib.hid (HA.out.kept hk)
    have HB := Lib.hid (HB.out.kept hk)
    have HC := Lib.hid (HC.out.kept hk)
    have YA := Lib.hid (YA.out.kept hk)
    clear hk
    go_wp2
    go_ret
    exact ⟨rfl, K.out⟩
  have CA := Lib.hid (Decidable.of_not_not cA)
  clear cA
  refine (refCheckR YA.out CA.out).mono ?_
  rintro e w9 ⟨rfl, hk⟩
  have K := Lib.hid (K.out.trans hk)
  have HA := Lib.hid (HA.out.kept hk)
  have HB := Lib.hid (HB.out.kept hk)
  have HC := Lib.hid (HC.out.kept hk)
  have YA := Lib.hid (YA.out.kept hk)
  clear hk
  clear YA
  go_wp2_with fail
  refine (ofR HB.out FB.out).mono ?_
  rintro e w10 ⟨x10, rfl, hr, hk⟩
  have K := Lib.hid (K.out.trans hk)
  have HA := Lib.hid (HA.out.kept hk)
  have HB := Lib.hid (HB.out.kept hk)
  have HC := Lib.hid (HC.out.kept hk)
  clear hk
  have YB := Lib.hid hr
  clear hr
  go_wp2_with fail
  by_cases cB : ¬ checkV lB = 0
  · obtain ⟨c, hc⟩ : ∃ c, checkV lB = c := ⟨_, rfl⟩
    have hc0 : (c == 0) = false := by rw [← hc]; simpa using cB
    refine (refCheckR YB.out hc).mono ?_
    rintro e w11 ⟨rfl, hk⟩
    have K := Lib.hid (K.out.trans hk)
    have HA := Lib.hid (HA.out.kept hk)
    have HB := Lib.hid (HB.out.kept hk)
    have HC := Lib.hid (HC.out.kept hk)
    have YB := Lib.hid (YB.out.kept hk)
    clear hk
    go_wp2
    go_ret
    exact ⟨rfl, K.out⟩
  have CB := Lib.hid (Decidable.of_not_not cB)
  clear cB
  refine (refCheckR YB.out CB.out).mono ?_
  rintro e w12 ⟨rfl, hk⟩
  have K := Lib.hid (K.out.trans hk)
  have HA := Lib.hid (HA.out.kept hk)
  have HB := Lib.hid (HB.out.kept hk)
  have HC := Lib.hid (HC.out.kept hk)
  have YB := Lib.hid (YB.out.kept hk)
  clear hk
  clear YB
  go_wp2_with fail
  refine (ofR HC.out FC.out).mono ?_
  rintro e w13 ⟨x13, rfl, hr, hk⟩
  have K := Lib.hid (K.out.trans hk)
  have HA := Lib.hid (HA.out.kept hk)
  have HB := Lib.hid (HB.out.kept hk)
  have HC := Lib.hid (HC.out.kept hk)
  clear hk
  have YC := Lib.hid hr
  clear hr
  go_wp2_with fail
  by_cases cC : ¬ checkV lC = 0
  · obtain ⟨c, hc⟩ : ∃ c, checkV lC = c := ⟨_, rfl⟩
    have hc0 : (c == 0) = false := by rw [← hc]; simpa using cC
    refine (refCheckR YC.out hc).mono ?_
    rintro e w14 ⟨rfl, hk⟩
    have K := Lib.hid (K.out.trans hk)
    have HA := Lib.hid (HA.out.kept hk)
    have HB := Lib.hid (HB.out.kept hk)
    have HC := Lib.hid (HC.out.kept hk)
    have YC := Lib.hid (YC.out.kept hk)
    clear hk
    go_wp2
    go_ret
    exact ⟨rfl, K.out⟩
  have CC := Lib.hid (Decidable.of_not_not cC)
  clear cC
  refine (refCheckR YC.out CC.out).mono ?_
  rintro e w15 ⟨rfl, hk⟩
  have K := Lib.hid (K.out.trans hk)
  have HA := Lib.hid (HA.out.kept hk)
  have HB := Lib.hid (HB.out.kept hk)
  have HC := Lib.hid (HC.out.kept hk)
  have YC := Lib.hid (YC.out.kept hk)
  clear hk
  clear YC
  go_wp2_with fail
  have GA := Lib.hid (check_good CA.out HA.out.fine)
  have NA := Lib.hid (check_len CA.out)
  have GB := Lib.hid (check_good CB.out HB.out.fine)
  have NB := Lib.hid (check_len CB.out)
  have GC := Lib.hid (check_good CC.out HC.out.fine)
  have NC := Lib.hid (check_len CC.out)
  refine (fitsR HA.out HA.out (fits_self GA.out)).mono ?_
  rintro e w16 ⟨rfl, hk⟩
  have K := Lib.hid (K.out.trans hk)
  have HA := Lib.hid (HA.out.kept hk)
  have HB := Lib.hid (HB.out.kept hk)
  have HC := Lib.hid (HC.out.kept hk)
  clear hk
  go_wp2_with fail
  refine (fitsR (Reads.nil _) HA.out (rfl : fitsFrom lA [] = true)).mono ?_
  rintro e w17 ⟨rfl, hk⟩
  have K := Lib.hid (K.out.trans hk)
  have HA := Lib.hid (HA.out.kept hk)
  have HB := Lib.hid (HB.out.kept hk)
  have HC := Lib.hid (HC.out.kept hk)
  clear hk
  go_wp2_with fail
  refine (fitsR HA.out (Reads.nil _) ((nil_fits GA.out).trans HZ.out)).mono ?_
  rintro e w18 ⟨rfl, hk⟩
  have K := Lib.hid (K.out.trans hk)
  have HA := Lib.hid (HA.out.kept hk)
  have HB := Lib.hid (HB.out.kept hk)
  have HC := Lib.hid (HC.out.kept hk)
  clear hk
  go_wp2_with fail
  obtain ⟨c, m, hcm⟩ : ∃ c m, mergedV subF lB lA = (c, m) := ⟨_, _, rfl⟩
  obtain ⟨p, hp⟩ : ∃ p, fitsFrom lB lA = p := ⟨_, rfl⟩
  have hcp : (c == 0) = p := by
    have h := sub_fits GB.out GA.out NB.out NA.out
    rw [hcm, hp] at h
    cases p with
    | true => simpa using h
    | false => simpa using h
  have HCM := Lib.hid hcm
  have HP := Lib.hid hp
  clear hcm hp
  refine (subR HB.out HA.out HCM.out).mono ?_
  rintro e w19 ⟨x19, rfl, hr, hk⟩
  have K := Lib.hid (K.out.trans hk)
  have HA := Lib.hid (HA.out.kept hk)
  have HB := Lib.hid (HB.out.kept hk)
  have HC := Lib.hid (HC.out.kept hk)
  clear hk
  clear hr
  go_wp2_with fail
  by_cases p0 : p = false
  · subst p0
    refine (fitsR HA.out HB.out HP.out).mono ?_
    rintro e w20 ⟨rfl, hk⟩
    have K := Lib.hid (K.out.trans hk)
    have HA := Lib.hid (HA.out.kept hk)
    have HB := Lib.hid (HB.out.kept hk)
    have HC := Lib.hid (HC.out.kept hk)
    clear hk
    go_wp2_with fail
    refine (fitsR HA.out HB.out HP.out).mono ?_
    rintro e w21 ⟨rfl, hk⟩
    have K := Lib.hid (K.out.trans hk)
    have HA := Lib.hid (HA.out.kept hk)
    have HB := Lib.hid (HB.out.kept hk)
    have HC := Lib.hid (HC.out.kept hk)
    clear hk
    go_wp2_with fail
    refine (fitsR HA.out HB.out HP.out).mono ?_
    rintro e w22 ⟨rfl, hk⟩
    have K := Lib.hid (K.out.trans hk)
    have HA := Lib.hid (HA.out.kept hk)
    have HB := Lib.hid (HB.out.kept hk)
    have HC := Lib.hid (HC.out.kept hk)
    clear hk
    go_wp2
    go_ret
    exact ⟨rfl, K.out⟩
  have p1 : p = true := by cases p with
    | true => rfl
    | false => exact absurd rfl p0
  subst p1
  clear p0
  refine (fitsR HA.out HB.out HP.out).mono ?_
  rintro e w23 ⟨rfl, hk⟩
  have K := Lib.hid (K.out.trans hk)
  have HA := Lib.hid (HA.out.kept hk)
  have HB := Lib.hid (HB.out.kept hk)
  have HC := Lib.hid (HC.out.kept hk)
  clear hk
  go_wp2_with fail
  by_cases q0 : ¬ fitsFrom lC lB = true
  · have q0' : fitsFrom lC lB = false := by simpa using q0
    refine (fitsR HB.out HC.out q0').mono ?_
    rintro e w24 ⟨rfl, hk⟩
    have K := Lib.hid (K.out.trans hk)
    have HA := Lib.hid (HA.out.kept hk)
    have HB := Lib.hid (HB.out.kept hk)
    have HC := Lib.hid (HC.out.kept hk)
    clear hk
    go_wp2_with fail
    refine (fitsR HA.out HB.out HP.out).mono ?_
    rintro e w25 ⟨rfl, hk⟩
    have K := Lib.hid (K.out.trans hk)
    have HA := Lib.hid (HA.out.kept hk)
    have HB := Lib.hid (HB.out.kept hk)
    have HC := Lib.hid (HC.out.kept hk)
    clear hk
    go_wp2_with fail
    refine (fitsR HA.out HB.out HP.out).mono ?_
    rintro e w26 ⟨rfl, hk⟩
    have K := Lib.hid (K.out.trans hk)
    have HA := Lib.hid (HA.out.kept hk)
    have HB := Lib.hid (HB.out.kept hk)
    have HC := Lib.hid (HC.out.kept hk)
    clear hk
    go_wp2_with fail
    by_cases r0 : ¬ fitsFrom lA lB = true
    · have r0' : fitsFrom lA lB = false := by simpa using r0
      refine (fitsR HB.out HA.out r0').mono ?_
      rintro e w27 ⟨rfl, hk⟩
      have K := Lib.hid (K.out.trans hk)
      have HA := Lib.hid (HA.out.kept hk)
      have HB := Lib.hid (HB.out.kept hk)
      have HC := Lib.hid (HC.out.kept hk)
      clear hk
      go_wp2
      go_ret
      exact ⟨rfl, K.out⟩
    have R0 := Lib.hid (Decidable.of_not_not r0)
    clear r0
    refine (fitsR HB.out HA.out R0.out).mono ?_
    rintro e w28 ⟨rfl, hk⟩
    have K := Lib.hid (K.out.trans hk)
    have HA := Lib.hid (HA.out.kept hk)
    have HB := Lib.hid (HB.out.kept hk)
    have HC := Lib.hid (HC.out.kept hk)
    clear hk
    go_wp2_with fail
    refine (sameR HA.out HB.out (same_of (fits_both GA.out GB.out HP.out R0.out))).mono ?_
    rintro e w29 ⟨rfl, hk⟩
    have K := Lib.hid (K.out.trans hk)
    have HA := Lib.hid (HA.out.kept hk)
    have HB := Lib.hid (HB.out.kept hk)
    have HC := Lib.hid (HC.out.kept hk)
    clear hk
    go_wp2
    go_ret
    exact ⟨rfl, K.out⟩
  have Q0 := Lib.hid (Decidable.of_not_not q0)
  clear q0
  refine (fitsR HB.out HC.out Q0.out).mono ?_
  rintro e w30 ⟨rfl, hk⟩
  have K := Lib.hid (K.out.trans hk)
  have HA := Lib.hid (HA.out.kept hk)
  have HB := Lib.hid (HB.out.kept hk)
  have HC := Lib.hid (HC.out.kept hk)
  clear hk
  go_wp2_with fail
  refine (fitsR HA.out HC.out (fits_trans GA.out GB.out GC.out HP.out Q0.out)).mono ?_
  rintro e w31 ⟨rfl, hk⟩
  have K := Lib.hid (K.out.trans hk)
  have HA := Lib.hid (HA.out.kept hk)
  have HB := Lib.hid (HB.out.kept hk)
  have HC := Lib.hid (HC.out.kept hk)
  clear hk
  go_wp2_with fail
  refine (fitsR HA.out HB.out HP.out).mono ?_
  rintro e w32 ⟨rfl, hk⟩
  have K := Lib.hid (K.out.trans hk)
  have HA := Lib.hid (HA.out.kept hk)
  have HB := Lib.hid (HB.out.kept hk)
  have HC := Lib.hid (HC.out.kept hk)
  clear hk
  go_wp2_with fail
  refine (fitsR HA.out HB.out HP.out).mono ?_
  rintro e w33 ⟨rfl, hk⟩
  have K := Lib.hid (K.out.trans hk)
  have HA := Lib.hid (HA.out.kept hk)
  have HB := Lib.hid (HB.out.kept hk)
  have HC := Lib.hid (HC.out.kept hk)
  clear hk
  go_wp2_with fail
  by_cases r0 : ¬ fitsFrom lA lB = true
  · have r0' : fitsFrom lA lB = false := by simpa using r0
    refine (fitsR HB.out HA.out r0').mono ?_
    rintro e w34 ⟨rfl, hk⟩
    have K := Lib.hid (K.out.trans hk)
    have HA := Lib.hid (HA.out.kept hk)
    have HB := Lib.hid (HB.out.kept hk)
    have HC := Lib.hid (HC.out.kept hk)
    clear hk
    go_wp2
    go_ret
    exact ⟨rfl, K.out⟩
  have R0 := Lib.hid (Decidable.of_not_not r0)
  clear r0
  refine (fitsR HB.out HA.out R0.out).mono ?_
  rintro e w35 ⟨rfl, hk⟩
  have K := Lib.hid (K.out.trans hk)
  have HA := Lib.hid (HA.out.kept hk)
  have HB := Lib.hid (HB.out.kept hk)
  have HC := Lib.hid (HC.out.kept hk)
  clear hk
  go_wp2_with fail
  refine (sameR HA.out HB.out (same_of (fits_both GA.out GB.out HP.out R0.out))).mono ?_
  rintro e w36 ⟨rfl, hk⟩
  have K := Lib.hid (K.out.trans hk)
  have HA := Lib.hid (HA.out.kept hk)
  have HB := Lib.hid (HB.out.kept hk)
  have HC := Lib.hid (HC.out.kept hk)
  clear hk
  go_wp2
  go_ret
  exact ⟨rfl, K.out⟩

end Go.Proofs.YtnnneimpdiadhaaDoor.Vec
