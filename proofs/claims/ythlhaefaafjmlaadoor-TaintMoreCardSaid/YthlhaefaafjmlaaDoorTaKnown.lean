/- What the laws know: a hard taint that is not borne, a soft one. -/
import Derived.Test.YthlhaefaafjmlaaDoorTaVals
namespace Go.Proofs.YthlhaefaafjmlaaDoor
open Go.RowKit
set_option linter.unusedVariables false

theorem kA_mid : ∀ x ∈ kA, x.1.size ≤ 900000 ∧ x.2.1.size ≤ 900000 := by decide
theorem kO_mid : ∀ x ∈ kO, x.1.size ≤ 900000 ∧ x.2.1.size ≤ 900000 := by decide

set_option maxRecDepth 100000 in
set_option maxHeartbeats 16000000 in
theorem known_any (w : World) (hE : Env w) :
    Calls Tryd.prog 8 #[] w fun e w' => e = .returned (.bool true) ∧ Kept w w' := by
  have HE := Lib.hid hE
  have t0 : (kTextA.toList == [103, 112, 117, 58, 121, 101, 115, 33, 44, 111, 108, 100, 58, 121, 101, 115]) = true := by rw [Lib.toList_data]; rfl
  have t1 : (kTextO.toList == [111, 108, 100, 44, 42, 58, 109, 97, 121, 98, 101]) = true := by rw [Lib.toList_data]; rfl
  have t2 : (bGpu.toList == [103, 112, 117]) = true := by rw [Lib.toList_data]; rfl
  have t3 : (bMaybe.toList == [109, 97, 121, 98, 101]) = true := by rw [Lib.toList_data]; rfl
  have t4 : ((⟨#[45]⟩ : ByteArray).toList == [45]) = true := by rw [Lib.toList_data]; rfl
  have t5 : (bNo.toList == ([] : List UInt8)) = true := by rw [Lib.toList_data]; rfl
  clear hE
  go_enter Tryd.func8, Tryd.ntmps8
  go_wp2_with fail
  refine (parseAR HE.out (by decide) k_parseA).mono ?_
  rintro e w1 ⟨v1, rfl, r, k⟩
  have K := Lib.hid k
  have R1 := Lib.hid r
  clear r
  clear k
  go_wp2_with fail
  refine (parseOR (HE.out.kept K.out) (by decide) k_parseO).mono ?_
  rintro e w2 ⟨v2, rfl, r, k⟩
  have K := Lib.hid (K.out.trans (k))
  have R1 := Lib.hid (R1.out.kept (k))
  have R2 := Lib.hid r
  clear r
  clear k
  go_wp2_with fail
  refine (parseAR (HE.out.kept K.out) (by decide) k_parseA2).mono ?_
  rintro e w3 ⟨v3, rfl, r, k⟩
  have K := Lib.hid (K.out.trans (k))
  have R1 := Lib.hid (R1.out.kept (k))
  have R2 := Lib.hid (R2.out.kept (k))
  have R3 := Lib.hid r
  clear r
  clear k
  go_wp2_with fail
  refine (parseAR (HE.out.kept K.out) (by decide) k_parseA3).mono ?_
  rintro e w4 ⟨v4, rfl, r, k⟩
  have K := Lib.hid (K.out.trans (k))
  have R1 := Lib.hid (R1.out.kept (k))
  have R2 := Lib.hid (R2.out.kept (k))
  have R3 := Lib.hid (R3.out.kept (k))
  have R4 := Lib.hid r
  clear r
  clear k
  go_wp2_with fail
  refine (parseOR (HE.out.kept K.out) (by decide) k_parseO2).mono ?_
  rintro e w5 ⟨v5, rfl, r, k⟩
  have K := Lib.hid (K.out.trans (k))
  have R1 := Lib.hid (R1.out.kept (k))
  have R2 := Lib.hid (R2.out.kept (k))
  have R3 := Lib.hid (R3.out.kept (k))
  have R4 := Lib.hid (R4.out.kept (k))
  have R5 := Lib.hid r
  clear r
  clear k
  obtain ⟨b1, o1, q1, rfl, rb1⟩ : ∃ b off cap, v1 = .slice (some ⟨b, off, none⟩) 2 cap ∧ RowAt TaLay w5 (some ⟨b, off, none⟩) 2 kA := by
    obtain ⟨a, cap, e, _, _, h⟩ := R1.out
    rcases h.form with h0 | ⟨b, off, rfl⟩
    · cases h0
    · exact ⟨b, off, cap, e, h⟩
  obtain ⟨b2, o2, q2, rfl, rb2⟩ : ∃ b off cap, v2 = .slice (some ⟨b, off, none⟩) 2 cap ∧ RowAt TaLay w5 (some ⟨b, off, none⟩) 2 kO := by
    obtain ⟨a, cap, e, _, _, h⟩ := R2.out
    rcases h.form with h0 | ⟨b, off, rfl⟩
    · cases h0
    · exact ⟨b, off, cap, e, h⟩
  obtain ⟨x', y', m', hx, _, _, _, _, c1, c2, c3⟩ := rb1.tri (show 0 < 2 by decide)
  obtain ⟨rfl, rfl, rfl⟩ : bGpu = x' ∧ bYes = y' ∧ true = m' := by simpa [kA, kO] using hx
  clear hx
  have c1 : w5.cell? ⟨b1, o1, none⟩ = some (.string bGpu) := by simpa using c1
  have c2 : w5.cell? ⟨b1, o1 + 1, none⟩ = some (.string bYes) := by simpa using c2
  have c3 : w5.cell? ⟨b1, o1 + 2, none⟩ = some (.bool true) := by simpa using c3
  obtain ⟨x', y', m', hx, _, _, _, _, d1, d2, d3⟩ := rb1.tri (show 1 < 2 by decide)
  obtain ⟨rfl, rfl, rfl⟩ : bOld = x' ∧ bYes = y' ∧ false = m' := by simpa [kA, kO] using hx
  clear hx
  have d1 : w5.cell? ⟨b1, o1 + 3, none⟩ = some (.string bOld) := by simpa using d1
  have d2 : w5.cell? ⟨b1, o1 + 4, none⟩ = some (.string bYes) := by simpa using d2
  have d3 : w5.cell? ⟨b1, o1 + 5, none⟩ = some (.bool false) := by simpa using d3
  obtain ⟨x', y', m', hx, _, _, _, _, f1, f2, f3⟩ := rb2.tri (show 0 < 2 by decide)
  obtain ⟨rfl, rfl, rfl⟩ : bOld = x' ∧ bNo = y' ∧ true = m' := by simpa [kA, kO] using hx
  clear hx
  have f1 : w5.cell? ⟨b2, o2, none⟩ = some (.string bOld) := by simpa using f1
  have f2 : w5.cell? ⟨b2, o2 + 1, none⟩ = some (.string bNo) := by simpa using f2
  have f3 : w5.cell? ⟨b2, o2 + 2, none⟩ = some (.bool true) := by simpa using f3
  obtain ⟨x', y', m', hx, _, _, _, _, g1, g2, g3⟩ := rb2.tri (show 1 < 2 by decide)
  obtain ⟨rfl, rfl, rfl⟩ : bNo = x' ∧ bMaybe = y' ∧ false = m' := by simpa [kA, kO] using hx
  clear hx
  have g1 : w5.cell? ⟨b2, o2 + 3, none⟩ = some (.string bNo) := by simpa using g1
  have g2 : w5.cell? ⟨b2, o2 + 4, none⟩ = some (.string bMaybe) := by simpa using g2
  have g3 : w5.cell? ⟨b2, o2 + 5, none⟩ = some (.bool false) := by simpa using g3
  clear rb1 rb2
  go_wp2_with fail
  refine (worstR (l := kO) (t := kA) R2.out R1.out k_w1 k_w2).mono ?_
  rintro e w6 ⟨rfl, k⟩
  have K := Lib.hid (K.out.trans (k))
  have R1 := Lib.hid (R1.out.kept (k))
  have R2 := Lib.hid (R2.out.kept (k))
  have c1 := cell_later (k) c1
  have c2 := cell_later (k) c2
  have c3 := cell_later (k) c3
  have d1 := cell_later (k) d1
  have d2 := cell_later (k) d2
  have d3 := cell_later (k) d3
  have f1 := cell_later (k) f1
  have f2 := cell_later (k) f2
  have f3 := cell_later (k) f3
  have g1 := cell_later (k) g1
  have g2 := cell_later (k) g2
  have g3 := cell_later (k) g3
  clear k
  have h1 := (TriAt.new w6 bGpu bYes true 37).1
  dsimp only at h1
  have R1 := Lib.hid (R1.out.kept (kept_alloc w6 (.cells #[.string bGpu, .string bYes, .bool true] 37)))
  have R2 := Lib.hid (R2.out.kept (kept_alloc w6 (.cells #[.string bGpu, .string bYes, .bool true] 37)))
  have K := Lib.hid (K.out.trans (kept_alloc w6 (.cells #[.string bGpu, .string bYes, .bool true] 37)))
  have c1 := cell_later (kept_alloc w6 (.cells #[.string bGpu, .string bYes, .bool true] 37)) c1
  have c2 := cell_later (kept_alloc w6 (.cells #[.string bGpu, .string bYes, .bool true] 37)) c2
  have c3 := cell_later (kept_alloc w6 (.cells #[.string bGpu, .string bYes, .bool true] 37)) c3
  have d1 := cell_later (kept_alloc w6 (.cells #[.string bGpu, .string bYes, .bool true] 37)) d1
  have d2 := cell_later (kept_alloc w6 (.cells #[.string bGpu, .string bYes, .bool true] 37)) d2
  have d3 := cell_later (kept_alloc w6 (.cells #[.string bGpu, .string bYes, .bool true] 37)) d3
  have f1 := cell_later (kept_alloc w6 (.cells #[.string bGpu, .string bYes, .bool true] 37)) f1
  have f2 := cell_later (kept_alloc w6 (.cells #[.string bGpu, .string bYes, .bool true] 37)) f2
  have f3 := cell_later (kept_alloc w6 (.cells #[.string bGpu, .string bYes, .bool true] 37)) f3
  have g1 := cell_later (kept_alloc w6 (.cells #[.string bGpu, .string bYes, .bool true] 37)) g1
  have g2 := cell_later (kept_alloc w6 (.cells #[.string bGpu, .string bYes, .bool true] 37)) g2
  have g3 := cell_later (kept_alloc w6 (.cells #[.string bGpu, .string bYes, .bool true] 37)) g3
  go_wp2_with fail
  refine (worstR (l := kAll) (t := kA) (lit_tri_at (w6.alloc (.cells #[.string bGpu, .string bYes, .bool true] 37)) _ bNo bNo true _ (by decide) (by decide) (World.size_alloc _ _).symm) (R1.out.kept (kept_alloc _ _)) k_w3 k_w4).mono ?_
  rintro e w7 ⟨rfl, k⟩
  have K := Lib.hid (K.out.trans (Kept.trans (kept_alloc _ _) k))
  have R1 := Lib.hid (R1.out.kept (Kept.trans (kept_alloc _ _) k))
  have R2 := Lib.hid (R2.out.kept (Kept.trans (kept_alloc _ _) k))
  have c1 := cell_later (Kept.trans (kept_alloc _ _) k) c1
  have c2 := cell_later (Kept.trans (kept_alloc _ _) k) c2
  have c3 := cell_later (Kept.trans (kept_alloc _ _) k) c3
  have d1 := cell_later (Kept.trans (kept_alloc _ _) k) d1
  have d2 := cell_later (Kept.trans (kept_alloc _ _) k) d2
  have d3 := cell_later (Kept.trans (kept_alloc _ _) k) d3
  have f1 := cell_later (Kept.trans (kept_alloc _ _) k) f1
  have f2 := cell_later (Kept.trans (kept_alloc _ _) k) f2
  have f3 := cell_later (Kept.trans (kept_alloc _ _) k) f3
  have g1 := cell_later (Kept.trans (kept_alloc _ _) k) g1
  have g2 := cell_later (Kept.trans (kept_alloc _ _) k) g2
  have g3 := cell_later (Kept.trans (kept_alloc _ _) k) g3
  have h1 := cell_later (Kept.trans (kept_alloc _ _) k) h1
  clear k
  have K := Lib.hid (K.out.trans (kept_alloc w7 (.cells #[.string bNo, .string bNo, .bool false] 37)))
  have R1 := Lib.hid (R1.out.kept (kept_alloc w7 (.cells #[.string bNo, .string bNo, .bool false] 37)))
  have R2 := Lib.hid (R2.out.kept (kept_alloc w7 (.cells #[.string bNo, .string bNo, .bool false] 37)))
  have c1 := cell_later (kept_alloc w7 (.cells #[.string bNo, .string bNo, .bool false] 37)) c1
  have c2 := cell_later (kept_alloc w7 (.cells #[.string bNo, .string bNo, .bool false] 37)) c2
  have c3 := cell_later (kept_alloc w7 (.cells #[.string bNo, .string bNo, .bool false] 37)) c3
  have d1 := cell_later (kept_alloc w7 (.cells #[.string bNo, .string bNo, .bool false] 37)) d1
  have d2 := cell_later (kept_alloc w7 (.cells #[.string bNo, .string bNo, .bool false] 37)) d2
  have d3 := cell_later (kept_alloc w7 (.cells #[.string bNo, .string bNo, .bool false] 37)) d3
  have f1 := cell_later (kept_alloc w7 (.cells #[.string bNo, .string bNo, .bool false] 37)) f1
  have f2 := cell_later (kept_alloc w7 (.cells #[.string bNo, .string bNo, .bool false] 37)) f2
  have f3 := cell_later (kept_alloc w7 (.cells #[.string bNo, .string bNo, .bool false] 37)) f3
  have g1 := cell_later (kept_alloc w7 (.cells #[.string bNo, .string bNo, .bool false] 37)) g1
  have g2 := cell_later (kept_alloc w7 (.cells #[.string bNo, .string bNo, .bool false] 37)) g2
  have g3 := cell_later (kept_alloc w7 (.cells #[.string bNo, .string bNo, .bool false] 37)) g3
  have h1 := cell_later (kept_alloc w7 (.cells #[.string bNo, .string bNo, .bool false] 37)) h1
  go_wp2_with fail
  refine (softR (l := kO) (t := kA) (n := 0) R2.out R1.out k_soft).mono ?_
  rintro e w8 ⟨rfl, k⟩
  have K := Lib.hid (K.out.trans (k))
  have R1 := Lib.hid (R1.out.kept (k))
  have R2 := Lib.hid (R2.out.kept (k))
  have c1 := cell_later (k) c1
  have c2 := cell_later (k) c2
  have c3 := cell_later (k) c3
  have d1 := cell_later (k) d1
  have d2 := cell_later (k) d2
  have d3 := cell_later (k) d3
  have f1 := cell_later (k) f1
  have f2 := cell_later (k) f2
  have f3 := cell_later (k) f3
  have g1 := cell_later (k) g1
  have g2 := cell_later (k) g2
  have g3 := cell_later (k) g3
  have h1 := cell_later (k) h1
  clear k
  go_wp2_with fail
  refine (softR (l := []) (t := kA) (n := 1) (Reads.nil _) R1.out k_soft2).mono ?_
  rintro e w9 ⟨rfl, k⟩
  have K := Lib.hid (K.out.trans (k))
  have R1 := Lib.hid (R1.out.kept (k))
  have R2 := Lib.hid (R2.out.kept (k))
  have c1 := cell_later (k) c1
  have c2 := cell_later (k) c2
  have c3 := cell_later (k) c3
  have d1 := cell_later (k) d1
  have d2 := cell_later (k) d2
  have d3 := cell_later (k) d3
  have f1 := cell_later (k) f1
  have f2 := cell_later (k) f2
  have f3 := cell_later (k) f3
  have g1 := cell_later (k) g1
  have g2 := cell_later (k) g2
  have g3 := cell_later (k) g3
  have h1 := cell_later (k) h1
  clear k
  go_wp2_with fail
  refine (bearsR (l := kO) R2.out k_bear1).mono ?_
  rintro e w10 ⟨rfl, k⟩
  have K := Lib.hid (K.out.trans (k))
  have R1 := Lib.hid (R1.out.kept (k))
  have R2 := Lib.hid (R2.out.kept (k))
  have c1 := cell_later (k) c1
  have c2 := cell_later (k) c2
  have c3 := cell_later (k) c3
  have d1 := cell_later (k) d1
  have d2 := cell_later (k) d2
  have d3 := cell_later (k) d3
  have f1 := cell_later (k) f1
  have f2 := cell_later (k) f2
  have f3 := cell_later (k) f3
  have g1 := cell_later (k) g1
  have g2 := cell_later (k) g2
  have g3 := cell_later (k) g3
  have h1 := cell_later (k) h1
  clear k
  go_wp2_with fail
  refine (bearsR (l := kO) R2.out k_bear0).mono ?_
  rintro e w11 ⟨rfl, k⟩
  have K := Lib.hid (K.out.trans (k))
  have R1 := Lib.hid (R1.out.kept (k))
  have R2 := Lib.hid (R2.out.kept (k))
  have c1 := cell_later (k) c1
  have c2 := cell_later (k) c2
  have c3 := cell_later (k) c3
  have d1 := cell_later (k) d1
  have d2 := cell_later (k) d2
  have d3 := cell_later (k) d3
  have f1 := cell_later (k) f1
  have f2 := cell_later (k) f2
  have f3 := cell_later (k) f3
  have g1 := cell_later (k) g1
  have g2 := cell_later (k) g2
  have g3 := cell_later (k) g3
  have h1 := cell_later (k) h1
  clear k
  go_wp2_with fail
  refine (textAR (l := kA) R1.out kA_mid (by decide) k_textA).mono ?_
  rintro e w12 ⟨rfl, k⟩
  have K := Lib.hid (K.out.trans (k))
  have R1 := Lib.hid (R1.out.kept (k))
  have R2 := Lib.hid (R2.out.kept (k))
  have c1 := cell_later (k) c1
  have c2 := cell_later (k) c2
  have c3 := cell_later (k) c3
  have d1 := cell_later (k) d1
  have d2 := cell_later (k) d2
  have d3 := cell_later (k) d3
  have f1 := cell_later (k) f1
  have f2 := cell_later (k) f2
  have f3 := cell_later (k) f3
  have g1 := cell_later (k) g1
  have g2 := cell_later (k) g2
  have g3 := cell_later (k) g3
  have h1 := cell_later (k) h1
  clear k
  go_wp2_with fail
  refine (textOR (l := kO) R2.out kO_mid (by decide) k_textO).mono ?_
  rintro e w13 ⟨rfl, k⟩
  have K := Lib.hid (K.out.trans (k))
  have R1 := Lib.hid (R1.out.kept (k))
  have R2 := Lib.hid (R2.out.kept (k))
  have c1 := cell_later (k) c1
  have c2 := cell_later (k) c2
  have c3 := cell_later (k) c3
  have d1 := cell_later (k) d1
  have d2 := cell_later (k) d2
  have d3 := cell_later (k) d3
  have f1 := cell_later (k) f1
  have f2 := cell_later (k) f2
  have f3 := cell_later (k) f3
  have g1 := cell_later (k) g1
  have g2 := cell_later (k) g2
  have g3 := cell_later (k) g3
  have h1 := cell_later (k) h1
  clear k
  go_wp2_with fail
  refine (checkAR (l := kA) R1.out k_chkA).mono ?_
  rintro e w14 ⟨rfl, k⟩
  have K := Lib.hid (K.out.trans (k))
  have R1 := Lib.hid (R1.out.kept (k))
  have R2 := Lib.hid (R2.out.kept (k))
  have c1 := cell_later (k) c1
  have c2 := cell_later (k) c2
  have c3 := cell_later (k) c3
  have d1 := cell_later (k) d1
  have d2 := cell_later (k) d2
  have d3 := cell_later (k) d3
  have f1 := cell_later (k) f1
  have f2 := cell_later (k) f2
  have f3 := cell_later (k) f3
  have g1 := cell_later (k) g1
  have g2 := cell_later (k) g2
  have g3 := cell_later (k) g3
  have h1 := cell_later (k) h1
  clear k
  go_wp2_with fail
  refine (checkOR (l := kO) R2.out k_chkO).mono ?_
  rintro e w15 ⟨rfl, k⟩
  have K := Lib.hid (K.out.trans (k))
  have R1 := Lib.hid (R1.out.kept (k))
  have R2 := Lib.hid (R2.out.kept (k))
  have c1 := cell_later (k) c1
  have c2 := cell_later (k) c2
  have c3 := cell_later (k) c3
  have d1 := cell_later (k) d1
  have d2 := cell_later (k) d2
  have d3 := cell_later (k) d3
  have f1 := cell_later (k) f1
  have f2 := cell_later (k) f2
  have f3 := cell_later (k) f3
  have g1 := cell_later (k) g1
  have g2 := cell_later (k) g2
  have g3 := cell_later (k) g3
  have h1 := cell_later (k) h1
  clear k
  go_wp2_with fail
  refine (textAR (l := []) (t := ⟨#[45]⟩) (Reads.nil _) (fun x hx => by cases hx) (by decide) rfl).mono ?_
  rintro e w16 ⟨rfl, k⟩
  have K := Lib.hid (K.out.trans (k))
  have R1 := Lib.hid (R1.out.kept (k))
  have R2 := Lib.hid (R2.out.kept (k))
  have c1 := cell_later (k) c1
  have c2 := cell_later (k) c2
  have c3 := cell_later (k) c3
  have d1 := cell_later (k) d1
  have d2 := cell_later (k) d2
  have d3 := cell_later (k) d3
  have f1 := cell_later (k) f1
  have f2 := cell_later (k) f2
  have f3 := cell_later (k) f3
  have g1 := cell_later (k) g1
  have g2 := cell_later (k) g2
  have g3 := cell_later (k) g3
  have h1 := cell_later (k) h1
  clear k
  go_wp2
  go_ret
  exact ⟨rfl, K.out⟩

end Go.Proofs.YthlhaefaafjmlaaDoor
