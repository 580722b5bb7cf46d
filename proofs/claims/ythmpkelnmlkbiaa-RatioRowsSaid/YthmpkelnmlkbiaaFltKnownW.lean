/- The statements' own first look at package ratio: the walk. -/
import Derived.Test.YthmpkelnmlkbiaaFltKnown
namespace Go.Proofs.Ythmpkelnmlkbiaa
open Go.RowKit
set_option linter.unusedVariables false

theorem eq_self {x : Nat} (h : isNaN x = false) : (FloatKind.f64.format.order x x == some .eq) = true := by rw [ord_eq, h]; simp

set_option maxRecDepth 100000 in
set_option maxHeartbeats 4000000 in
theorem known_any (w : World) : Calls Try.prog 10 #[] w fun e w' => e = .returned (.bool true) ∧ Kept w w' := by
  have q1 := eq_self (x := 4598175219545276416) (by decide +kernel)
  have q2 := eq_self (x := 4607182418800017408) (by decide +kernel)
  have q3 := eq_self (x := 4613937818241073152) (by decide +kernel)
  have q4 := eq_self (x := 4611686018427387904) (by decide +kernel)
  go_enter Try.func10, Try.ntmps10
  go_wp2_with fail
  refine (of_nan _).mono ?_
  rintro e w1 ⟨n, rfl, hn, ht, hk⟩
  have HN := Lib.hid hn
  have HT := Lib.hid ht
  have K1 := Lib.hid hk
  clear hn ht hk
  go_wp2_with fail
  refine (of_k 1 0 9218868437227405312 (by decide +kernel) _).mono ?_
  rintro e w2 ⟨rfl, hk⟩
  have K2 := Lib.hid (K1.out.trans hk)
  clear hk
  go_wp2_with fail
  refine (of_k (-1) 0 18442240474082181120 (by decide +kernel) _).mono ?_
  rintro e w3 ⟨rfl, hk⟩
  have K3 := Lib.hid (K2.out.trans hk)
  clear hk
  go_wp2_with fail
  refine (of_k 0 (-1) 9223372036854775808 (by decide +kernel) _).mono ?_
  rintro e w4 ⟨rfl, hk⟩
  have K4 := Lib.hid (K3.out.trans hk)
  clear hk
  go_wp2_with fail
  refine (sort_any stable_small (by omega) (some ⟨w4.heap.size, 0, none⟩) 7 7 [n, fOne, pInf, 0, mZero, mInf, mOne] _ (frow_w (frow_new w4 22 [n, fOne, pInf, 0, mZero, mInf, mOne] (fun x hx => by simp at hx; rcases hx with rfl | rfl | rfl | rfl | rfl | rfl | rfl <;> first | exact HT.out | decide) (by simp)) rfl rfl) (by omega)).mono ?_
  rintro e w5 ⟨a5, c5, s, rfl, hr, hp, ha, hk⟩
  have K5 := Lib.hid ((K4.out.trans (Kept.one _ _ _)).trans hk)
  have SV := Lib.hid (seven n HN.out s hp ha)
  have RW := Lib.hid hr
  clear hk hr hp ha
  obtain ⟨b, off, rfl, hb, hc⟩ : ∃ b off, a5 = some ⟨b, off, none⟩ ∧ b < w5.heap.size ∧ ∀ i, i < 7 → w5.cell? ⟨b, off + i, none⟩ = some (.float .f64 (s.getD i 0)) := by
    rcases RW.out.2.2.2 with h | h
    · simp at h
    · exact h
  have HB := Lib.hid hb
  have HC := Lib.hid hc
  clear hb hc
  have J5 := Lib.hid (Kept.refl w5)
  go_wp2_with fail
  refine (of_k 1 4 4598175219545276416 (by decide +kernel) _).mono ?_
  rintro e w6 ⟨rfl, hk⟩
  have K6 := Lib.hid (K5.out.trans hk)
  have J6 := Lib.hid (J5.out.trans hk)
  clear hk
  go_wp2_with fail
  refine (class_any n _).mono ?_
  rintro e w7 ⟨rfl, rfl⟩
  rw [cls_nan HN.out]
  have K7 := K6
  have J7 := J6
  go_wp2_with fail
  refine (class_any 9218868437227405312 _).mono ?_
  rintro e w8 ⟨rfl, rfl⟩
  rw [show cls 9218868437227405312 = 5 from by decide +kernel]
  have K8 := K7
  have J8 := J7
  go_wp2_with fail
  refine (class_any 18442240474082181120 _).mono ?_
  rintro e w9 ⟨rfl, rfl⟩
  rw [show cls 18442240474082181120 = 0 from by decide +kernel]
  have K9 := K8
  have J9 := J8
  go_wp2_with fail
  refine (class_any 9223372036854775808 _).mono ?_
  rintro e w10 ⟨rfl, rfl⟩
  rw [show cls 9223372036854775808 = 2 from by decide +kernel]
  have K10 := K9
  have J10 := J9
  go_wp2_with fail
  refine (class_any 0 _).mono ?_
  rintro e w11 ⟨rfl, rfl⟩
  rw [show cls 0 = 3 from by decide +kernel]
  have K11 := K10
  have J11 := J10
  go_wp2_with fail
  refine (class_any 4602678819172646912 _).mono ?_
  rintro e w12 ⟨rfl, rfl⟩
  rw [show cls 4602678819172646912 = 4 from by decide +kernel]
  have K12 := K11
  have J12 := J11
  go_wp2_with fail
  refine (class_any 13826050856027422720 _).mono ?_
  rintro e w13 ⟨rfl, rfl⟩
  rw [show cls 13826050856027422720 = 1 from by decide +kernel]
  have K13 := K12
  have J13 := J12
  go_wp2_with fail
  refine (compare_any n n _).mono ?_
  rintro e w14 h
  obtain ⟨rfl, hk⟩ := h.kept
  clear h
  rw [cp_self]
  have K14 := Lib.hid (K13.out.trans hk)
  have J14 := Lib.hid (J13.out.trans hk)
  clear hk
  go_wp2_with fail
  refine (compare_any 9223372036854775808 0 _).mono ?_
  rintro e w15 h
  obtain ⟨rfl, hk⟩ := h.kept
  clear h
  rw [show cp 9223372036854775808 0 = -1 from by decide +kernel]
  have K15 := Lib.hid (K14.out.trans hk)
  have J15 := Lib.hid (J14.out.trans hk)
  clear hk
  go_wp2_with fail
  refine (compare_any n 9218868437227405312 _).mono ?_
  rintro e w16 h
  obtain ⟨rfl, hk⟩ := h.kept
  clear h
  rw [show cp n 9218868437227405312 = 1 from by unfold cp; rw [key_nan HN.out, show key 9218868437227405312 = 9218868437227405312 from by decide +kernel]; rfl]
  have K16 := Lib.hid (K15.out.trans hk)
  have J16 := Lib.hid (J15.out.trans hk)
  clear hk
  have cc : w16.cell? ⟨b, off, none⟩ = some (.float .f64 (s.getD 0 0)) := (Below.cell J16.out (p := ⟨b, off + 0, none⟩) HB.out).trans (HC.out 0 (by omega))
  go_wp2_with fail
  refine (alike_any (s.getD 0 0) 18442240474082181120 _).mono ?_
  rintro e w17 h
  obtain ⟨rfl, hk⟩ := h.kept
  clear h
  rw [show decide (cp (s.getD 0 0) 18442240474082181120 = 0) = true from decide_eq_true (SV.out.1)]
  have K17 := Lib.hid (K16.out.trans hk)
  have J17 := Lib.hid (J16.out.trans hk)
  clear cc
  clear hk
  have cc : w17.cell? ⟨b, off + 2, none⟩ = some (.float .f64 (s.getD 2 0)) := (Below.cell J17.out (p := ⟨b, off + 2, none⟩) HB.out).trans (HC.out 2 (by omega))
  go_wp2_with fail
  refine (alike_any (s.getD 2 0) 9223372036854775808 _).mono ?_
  rintro e w18 h
  obtain ⟨rfl, hk⟩ := h.kept
  clear h
  rw [show decide (cp (s.getD 2 0) 9223372036854775808 = 0) = true from decide_eq_true (SV.out.2.1)]
  have K18 := Lib.hid (K17.out.trans hk)
  have J18 := Lib.hid (J17.out.trans hk)
  clear cc
  clear hk
  have cc : w18.cell? ⟨b, off + 6, none⟩ = some (.float .f64 (s.getD 6 0)) := (Below.cell J18.out (p := ⟨b, off + 6, none⟩) HB.out).trans (HC.out 6 (by omega))
  go_wp2_with fail
  refine (alike_any (s.getD 6 0) n _).mono ?_
  rintro e w19 h
  obtain ⟨rfl, hk⟩ := h.kept
  clear h
  rw [show decide (cp (s.getD 6 0) n = 0) = true from decide_eq_true (SV.out.2.2)]
  have K19 := Lib.hid (K18.out.trans hk)
  have J19 := Lib.hid (J18.out.trans hk)
  clear cc
  clear hk
  go_wp2_with fail
  refine (most_any (some ⟨w19.heap.size, 0, none⟩) 2 2 [fOne, n] _ (frow_w (frow_new w19 22 [fOne, n] (fun x hx => by simp at hx; rcases hx with rfl | rfl <;> first | exact HT.out | decide) (by simp)) rfl rfl)).mono ?_
  rintro e w20 ⟨r1, rfl, hr, hk⟩
  have R1 := Lib.hid hr
  have K20 := Lib.hid ((K19.out.trans (Kept.one _ _ _)).trans hk)
  clear hk hr
  go_wp2_with fail
  refine (alike_any r1 n _).mono ?_
  rintro e w21 h
  obtain ⟨rfl, hk⟩ := h.kept
  clear h
  rw [show decide (cp r1 n = 0) = true from decide_eq_true (most_nan HN.out R1.out)]
  have K21 := Lib.hid (K20.out.trans hk)
  clear hk
  go_wp2_with fail
  refine (least_any (some ⟨w21.heap.size, 0, none⟩) 2 2 [fOne, n] _ (frow_w (frow_new w21 22 [fOne, n] (fun x hx => by simp at hx; rcases hx with rfl | rfl <;> first | exact HT.out | decide) (by simp)) rfl rfl)).mono ?_
  rintro e w22 ⟨r2, rfl, hr, hk⟩
  rw [least_one HN.out hr]
  have K22 := Lib.hid ((K21.out.trans (Kept.one _ _ _)).trans hk)
  clear hk hr
  go_wp2_with fail
  refine (mean_any (some ⟨w22.heap.size, 0, none⟩) 3 3 [fOne, fTwo, fSix] _ (frow_w (frow_new w22 22 [fOne, fTwo, fSix] (fun x hx => by simp at hx; rcases hx with rfl | rfl | rfl <;> decide) (by simp)) rfl rfl)).mono ?_
  rintro e w23 ⟨r3, rfl, hr, _, hk⟩
  rw [mean_three hr]
  have K23 := Lib.hid ((K22.out.trans (Kept.one _ _ _)).trans hk)
  clear hk hr
  go_wp2_with fail
  refine (mean_any none 0 0 [] _ ⟨rfl, by decide, by simp, .inl rfl⟩).mono ?_
  rintro e w24 ⟨r4, rfl, hr, _, hk⟩
  have R4 := Lib.hid hr
  have K24 := Lib.hid (K23.out.trans hk)
  clear hk hr
  go_wp2_with fail
  refine (alike_any r4 n _).mono ?_
  rintro e w25 h
  obtain ⟨rfl, hk⟩ := h.kept
  clear h
  rw [show decide (cp r4 n = 0) = true from decide_eq_true (nan_alike (nrm_none.1 R4.out) HN.out)]
  have K25 := Lib.hid (K24.out.trans hk)
  clear hk
  go_wp2_with fail
  refine (clamp_any n 4607182418800017408 4611686018427387904 _).mono ?_
  rintro e w26 ⟨rfl, hk⟩
  rw [clamp_nan HN.out]
  have K26 := Lib.hid (K25.out.trans hk)
  clear hk
  go_wp2_with fail
  refine (clamp_any 4617315517961601024 4607182418800017408 4611686018427387904 _).mono ?_
  rintro e w27 ⟨rfl, hk⟩
  rw [show clampV 4617315517961601024 4607182418800017408 4611686018427387904 = 4611686018427387904 from by decide +kernel]
  have K27 := Lib.hid (K26.out.trans hk)
  clear hk
  go_wp2_with fail
  go_ret
  exact ⟨rfl, K27.out⟩

end Go.Proofs.Ythmpkelnmlkbiaa
