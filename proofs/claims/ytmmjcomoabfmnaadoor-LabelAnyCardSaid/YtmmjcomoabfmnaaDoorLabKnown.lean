/- What the laws know: labels, and what matches them. -/
import Derived.Test.YtmmjcomoabfmnaaDoorLabVals
namespace Go.Proofs.YtmmjcomoabfmnaaDoor
open Go.RowKit
set_option linter.unusedVariables false

theorem kS_mid : ∀ x ∈ kS, x.1.size ≤ 1000000 ∧ x.2.size ≤ 1000000 := by decide
theorem kL_mid : ∀ x ∈ kL, x.2.1.size ≤ 1000000 ∧ x.2.2.size ≤ 1000000 := by decide

set_option maxRecDepth 100000 in
set_option maxHeartbeats 4000000 in
theorem known_any (w : World) (hE : Env w) :
    Calls Tryd.prog 8 #[] w fun e w' => e = .returned (.bool true) ∧ Kept w w' := by
  have HE := Lib.hid hE
  have t0 : (kText.toList == [97, 112, 112, 58, 119, 101, 98, 44, 122, 111, 110, 101, 58, 97]) = true := by rw [Lib.toList_data]; rfl
  have t1 : (kSelText.toList == [97, 112, 112, 58, 119, 101, 98, 44, 122, 111, 110, 101, 33, 98, 44, 97, 112, 112, 44, 45, 103, 112, 117]) = true := by rw [Lib.toList_data]; rfl
  have t2 : (bGpu.toList == [103, 112, 117]) = true := by rw [Lib.toList_data]; rfl
  have t3 : (bA.toList == [97]) = true := by rw [Lib.toList_data]; rfl
  have t4 : ((⟨#[45]⟩ : ByteArray).toList == [45]) = true := by rw [Lib.toList_data]; rfl
  clear hE
  go_enter Tryd.func8, Tryd.ntmps8
  go_wp2_with fail
  refine (parseR HE.out (by decide) k_parse).mono ?_
  rintro e w1 ⟨v1, rfl, r1, k1⟩
  have R1 := Lib.hid r1
  have K1 := Lib.hid k1
  clear r1 k1
  go_wp2_with fail
  refine (parseSelR (HE.out.kept K1.out) (by decide) k_parseSel).mono ?_
  rintro e w2 ⟨v2, rfl, r2, k2⟩
  have R1 := Lib.hid (R1.out.kept k2)
  have R2 := Lib.hid r2
  have K2 := Lib.hid (K1.out.trans k2)
  clear r2 k2
  go_wp2_with fail
  refine (parseR (HE.out.kept K2.out) (by decide) k_parse2).mono ?_
  rintro e w3 ⟨v3, rfl, r3, k3⟩
  have R1 := Lib.hid (R1.out.kept k3)
  have R2 := Lib.hid (R2.out.kept k3)
  have K3 := Lib.hid (K2.out.trans k3)
  clear r3 k3
  go_wp2_with fail
  refine (parseSelR (HE.out.kept K3.out) (by decide) k_parseSel2).mono ?_
  rintro e w4 ⟨v4, rfl, r4, k4⟩
  have R1 := Lib.hid (R1.out.kept k4)
  have R2 := Lib.hid (R2.out.kept k4)
  have K4 := Lib.hid (K3.out.trans k4)
  clear r4 k4
  go_wp2_with fail
  refine (parseR (HE.out.kept K4.out) (by decide) k_parse3).mono ?_
  rintro e w5 ⟨v5, rfl, r5, k5⟩
  have R1 := Lib.hid (R1.out.kept k5)
  have R2 := Lib.hid (R2.out.kept k5)
  have K5 := Lib.hid (K4.out.trans k5)
  clear r5 k5
  go_wp2_with fail
  refine (getR (n := bZone) (x := bA) (b := true) R1.out (by unfold getT; rw [g_z]; rfl) (by unfold hasS; rw [g_z]; rfl)).mono ?_
  rintro e w6 ⟨rfl, k6⟩
  have R1 := Lib.hid (R1.out.kept k6)
  have R2 := Lib.hid (R2.out.kept k6)
  have K6 := Lib.hid (K5.out.trans k6)
  clear k6
  go_wp2_with fail
  refine (getR (n := bX) (x := ByteArray.empty) (b := false) R1.out (by unfold getT; rw [g_x]; rfl) (by unfold hasS; rw [g_x]; rfl)).mono ?_
  rintro e w7 ⟨rfl, k7⟩
  have R1 := Lib.hid (R1.out.kept k7)
  have R2 := Lib.hid (R2.out.kept k7)
  have K7 := Lib.hid (K6.out.trans k7)
  clear k7
  obtain ⟨b1, q1, rfl, rb1⟩ : ∃ a cap, v1 = .slice a 2 cap ∧ RowAt PairLay w7 a 2 kS := by obtain ⟨a, cap, e, _, _, h⟩ := R1.out; exact ⟨a, cap, e, h⟩
  obtain ⟨b2, o2, q2, rfl, rb2⟩ : ∃ b off cap, v2 = .slice (some ⟨b, off, none⟩) 4 cap ∧ RowAt TermLay w7 (some ⟨b, off, none⟩) 4 kL := by
    obtain ⟨a, cap, e, _, _, h⟩ := R2.out
    rcases h.form with h0 | ⟨b, off, rfl⟩
    · cases h0
    · exact ⟨b, off, cap, e, h⟩
  obtain ⟨o', x', y', hx, _, hb, _, _, _, c1, _, _⟩ := rb2.term (show 1 < 4 by decide)
  obtain ⟨rfl, rfl, rfl⟩ : 2 = o' ∧ bZone = x' ∧ bB = y' := by simpa [kL] using hx
  obtain ⟨o', x', y', hx, _, _, _, _, _, d1, d2, _⟩ := rb2.term (show 3 < 4 by decide)
  obtain ⟨rfl, rfl, rfl⟩ : 4 = o' ∧ bGpu = x' ∧ bNo = y' := by simpa [kL] using hx
  have HRB := Lib.hid rb1
  clear rb1 rb2 hx
  go_wp2_with fail
  refine (matchR R2.out R1.out k_match).mono ?_
  rintro e w8 ⟨rfl, k8⟩
  have R1 := Lib.hid (R1.out.kept k8)
  have R2 := Lib.hid (R2.out.kept k8)
  have K8 := Lib.hid (K7.out.trans k8)
  clear k8
  go_wp2_with fail
  refine (matchR (l := kB) (lit_term _ 1 bZone bB _ (by decide) (by decide) (by decide)) (R1.out.kept (kept_alloc _ _)) k_match2).mono ?_
  rintro e w9 ⟨rfl, k9⟩
  have R1 := Lib.hid (R1.out.kept ((kept_alloc _ _).trans k9))
  have R2 := Lib.hid (R2.out.kept ((kept_alloc _ _).trans k9))
  have K9 := Lib.hid (K8.out.trans ((kept_alloc _ _).trans k9))
  clear k9
  go_wp2_with fail
  refine (textR R1.out kS_mid (by decide) k_text).mono ?_
  rintro e w10 ⟨rfl, k10⟩
  have R1 := Lib.hid (R1.out.kept k10)
  have R2 := Lib.hid (R2.out.kept k10)
  have K10 := Lib.hid (K9.out.trans k10)
  clear k10
  go_wp2_with fail
  refine (selTextR R2.out kL_mid (by decide) k_selText).mono ?_
  rintro e w11 ⟨rfl, k11⟩
  have R1 := Lib.hid (R1.out.kept k11)
  have R2 := Lib.hid (R2.out.kept k11)
  have K11 := Lib.hid (K10.out.trans k11)
  clear k11
  go_wp2_with fail
  refine (textR (l := []) (t := ⟨#[45]⟩) (Reads.nil _) (fun x hx => by cases hx) (by decide) rfl).mono ?_
  rintro e w12 ⟨rfl, k12⟩
  have R1 := Lib.hid (R1.out.kept k12)
  have R2 := Lib.hid (R2.out.kept k12)
  have K12 := Lib.hid (K11.out.trans k12)
  clear k12
  go_wp2_with fail
  refine (checkR (l := kS) R1.out k_chk).mono ?_
  rintro e w13 ⟨rfl, k13⟩
  have R2 := Lib.hid (R2.out.kept k13)
  have K13 := Lib.hid (K12.out.trans k13)
  clear k13
  go_wp2_with fail
  refine (checkSelR (l := kL) R2.out k_chkL).mono ?_
  rintro e w14 ⟨rfl, k14⟩
  have K14 := Lib.hid (K13.out.trans k14)
  clear k14
  go_wp2
  go_ret
  exact ⟨rfl, K14.out⟩

end Go.Proofs.YtmmjcomoabfmnaaDoor
