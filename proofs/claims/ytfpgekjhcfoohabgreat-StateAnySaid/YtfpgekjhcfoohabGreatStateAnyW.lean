/- Any cluster: whether it may be, what each node has in use, left, all in all, what is on it: the law, walked. -/
import Derived.Test.YtfpgekjhcfoohabGreatStRefFree
import Derived.Test.YtfpgekjhcfoohabGreatStD
import Derived.Test.YtfpgekjhcfoohabGreatStE
import Derived.Test.YtfpgekjhcfoohabGreatStA
import Derived.Test.YtfpgekjhcfoohabGreatStRefWith
import Derived.Test.YtfpgekjhcfoohabGreatPodRefEq
import Derived.Test.YtfpgekjhcfoohabGreatPodP
import Derived.Deep.RegionHeld3
namespace Go.Proofs.YtfpgekjhcfoohabGreat
open Go.RowKit
set_option linter.unusedVariables false

theorem bne_own (c : Int) : (c != c) = false := by simp
set_option maxRecDepth 100000 in
set_option maxHeartbeats 25600000 in
theorem StateAny_walk (v : Value) (s : Clu) (x : ByteArray) (w : World) (h : CluR w v s) (hx9 : x.size ≤ maxLen) : Calls Tryz.prog 3 #[v, .string x] w fun e w' => e = .returned (.bool true) ∧ Kept w w' := by
  have hs0 := h
  obtain ⟨_, _, _, rfl, ⟨sa1, sc1, rfl, -, -, -⟩, ⟨sa2, sc2, rfl, -, -, -⟩, ⟨sa3, sc3, rfl, -, -, -⟩⟩ := hs0
  obtain ⟨sl1, hsl1⟩ : ∃ q, (s).nodes.length = q := ⟨_, rfl⟩
  rw [hsl1] at h
  try rw [hsl1]
  clear hsl1
  obtain ⟨sl2, hsl2⟩ : ∃ q, (s).pods.length = q := ⟨_, rfl⟩
  rw [hsl2] at h
  try rw [hsl2]
  clear hsl2
  obtain ⟨sl3, hsl3⟩ : ∃ q, (s).buds.length = q := ⟨_, rfl⟩
  rw [hsl3] at h
  try rw [hsl3]
  clear hsl3
  obtain ⟨Z, hZ⟩ : ∃ Z, w.alloc (.cells #[.slice sa1 sl1 sc1, .slice sa2 sl2 sc2, .slice sa3 sl3 sc3] 26) = Z := ⟨_, rfl⟩
  have hkz : Kept w Z := by rw [← hZ]; exact kept_alloc _ _
  have HQS := Lib.hid (show CellsN w.heap.size [.slice sa1 sl1 sc1, .slice sa2 sl2 sc2, .slice sa3 sl3 sc3] Z from freshN w (.slice sa1 sl1 sc1) [.slice sa2 sl2 sc2, .slice sa3 sl3 sc3] 26 Z (by rw [hZ]; exact Kept.refl _))
  have HS := Lib.hid (h.kept hkz)
  have HKZ := Lib.hid hkz
  clear h hkz
  try unfold CluV at HS
  have K := Lib.hid (Kept.refl Z)
  go_enter Tryz.func3, Tryz.ntmps3
  go_wp2_with fail
  try rw [hZ]
  clear hZ
  refine (knownSt_any Z).mono ?_
  rintro e w1 ⟨rfl, kk⟩
  have HQS := Lib.hid (HQS.out.kept kk)
  have HS := Lib.hid (HS.out.kept kk)
  have K := Lib.hid (K.out.trans kk)
  clear kk
  obtain ⟨e1, he1⟩ : ∃ e, fewSt s = e := ⟨_, rfl⟩
  have HE1 := Lib.hid he1
  have sq0 := HQS.out.at_ 0 _ rfl
  have sq1 := HQS.out.at_ 1 _ rfl
  have sq2 := HQS.out.at_ 2 _ rfl
  go_wp2_with fail
  refine (fewStR HS.out he1).mono ?_
  rintro e w2 ⟨rfl, kk⟩
  have HQS := Lib.hid (HQS.out.kept kk)
  have HS := Lib.hid (HS.out.kept kk)
  have K := Lib.hid (K.out.trans kk)
  clear kk he1
  clear sq0 sq1 sq2
  have sq0 := HQS.out.at_ 0 _ rfl
  have sq1 := HQS.out.at_ 1 _ rfl
  have sq2 := HQS.out.at_ 2 _ rfl
  cases e1 with
  | false =>
    go_wp2
    go_ret
    exact ⟨rfl, HKZ.out.trans K.out⟩
  | true =>
    by_cases hx : ¬ x.size ≤ 50
    · have hxn : (50 : Int) < (x.size : Int) := by omega
      go_wp2
      go_ret
      exact ⟨rfl, HKZ.out.trans K.out⟩
    have hxn : ¬ (50 : Int) < (x.size : Int) := by omega
    obtain ⟨LS, LS1, LS2, LS3⟩ := few_lowS HE1.out
    have HL := Lib.hid LS
    have HLEN := Lib.hid (And.intro LS1 (And.intro LS2 LS3))
    clear LS LS1 LS2 LS3
    go_upto_region 5 with fail
    go_wp2_with fail
    refine (ofStR HS.out HL.out (by have := HLEN.out.1; omega) (by have := HLEN.out.2.1; omega) (by have := HLEN.out.2.2; omega)).mono ?_
    rintro e w6 ⟨xv, rfl, hv, kk⟩
    have HQS := Lib.hid (HQS.out.kept kk)
    have HS := Lib.hid (HS.out.kept kk)
    have K := Lib.hid (K.out.trans kk)
    clear kk
    have hs0 := hv
    obtain ⟨_, _, _, rfl, ⟨xa1, xc1, rfl, -, -, -⟩, ⟨xa2, xc2, rfl, -, -, -⟩, ⟨xa3, xc3, rfl, -, -, -⟩⟩ := hs0
    obtain ⟨xl1, hxl1⟩ : ∃ q, (s).nodes.length = q := ⟨_, rfl⟩
    rw [hxl1] at hv
    try rw [hxl1]
    clear hxl1
    obtain ⟨xl2, hxl2⟩ : ∃ q, (s).pods.length = q := ⟨_, rfl⟩
    rw [hxl2] at hv
    try rw [hxl2]
    clear hxl2
    obtain ⟨xl3, hxl3⟩ : ∃ q, (s).buds.length = q := ⟨_, rfl⟩
    rw [hxl3] at hv
    try rw [hxl3]
    clear hxl3
    try unfold CluV at hv
    have HX := Lib.hid hv
    clear hv
    clear sq0 sq1 sq2
    obtain ⟨W7, hW7⟩ : ∃ W, w6.alloc (.cells #[.slice xa1 xl1 xc1, .slice xa2 xl2 xc2, .slice xa3 xl3 xc3] 33) = W := ⟨_, rfl⟩
    have hk7 : Kept w6 W7 := by rw [← hW7]; exact kept_alloc _ _
    have HQX := Lib.hid (show CellsN w6.heap.size [.slice xa1 xl1 xc1, .slice xa2 xl2 xc2, .slice xa3 xl3 xc3] W7 from freshN w6 (.slice xa1 xl1 xc1) [.slice xa2 xl2 xc2, .slice xa3 xl3 xc3] 33 W7 (by rw [hW7]; exact Kept.refl _))
    obtain ⟨xq, hxq⟩ : ∃ q, w6.heap.size = q := ⟨_, rfl⟩
    rw [hxq] at HQX
    have HW7 := Lib.hid hW7
    clear hW7
    go_upto_region 6 with fail
    try rw [HW7.out]
    try rw [hxq]
    clear HW7
    have HQS := Lib.hid (HQS.out.kept hk7)
    have HS := Lib.hid (HS.out.kept hk7)
    have HX := Lib.hid (HX.out.kept hk7)
    have K := Lib.hid (K.out.trans hk7)
    clear hk7 hxq
    obtain ⟨c, hc⟩ : ∃ c, chkSt s = c := ⟨_, rfl⟩
    have HC := Lib.hid hc
    have hcc := bne_own c
    have sq0 := HQS.out.at_ 0 _ rfl
    have sq1 := HQS.out.at_ 1 _ rfl
    have sq2 := HQS.out.at_ 2 _ rfl
    have xq0 := HQX.out.at_ 0 _ rfl
    have xq1 := HQX.out.at_ 1 _ rfl
    have xq2 := HQX.out.at_ 2 _ rfl
    go_wp2_with fail
    refine (rcheckStR HX.out hc).mono ?_
    rintro e w8 ⟨rfl, kk⟩
    have HQS := Lib.hid (HQS.out.kept kk)
    have HQX := Lib.hid (HQX.out.kept kk)
    have HS := Lib.hid (HS.out.kept kk)
    have HX := Lib.hid (HX.out.kept kk)
    have K := Lib.hid (K.out.trans kk)
    clear kk
    clear sq0 sq1 sq2 xq0 xq1 xq2
    have sq0 := HQS.out.at_ 0 _ rfl
    have sq1 := HQS.out.at_ 1 _ rfl
    have sq2 := HQS.out.at_ 2 _ rfl
    have xq0 := HQX.out.at_ 0 _ rfl
    have xq1 := HQX.out.at_ 1 _ rfl
    have xq2 := HQX.out.at_ 2 _ rfl
    go_wp2_with fail
    refine (checkStR HS.out HL.out.nodes hc).mono ?_
    rintro e w9 ⟨rfl, kk⟩
    have HQS := Lib.hid (HQS.out.kept kk)
    have HQX := Lib.hid (HQX.out.kept kk)
    have HS := Lib.hid (HS.out.kept kk)
    have HX := Lib.hid (HX.out.kept kk)
    have K := Lib.hid (K.out.trans kk)
    clear kk hc
    clear sq0 sq1 sq2 xq0 xq1 xq2
    have sq0 := HQS.out.at_ 0 _ rfl
    have sq1 := HQS.out.at_ 1 _ rfl
    have sq2 := HQS.out.at_ 2 _ rfl
    have xq0 := HQX.out.at_ 0 _ rfl
    have xq1 := HQX.out.at_ 1 _ rfl
    have xq2 := HQX.out.at_ 2 _ rfl
    by_cases hz : ¬ c = 0
    · have hzn : (c != 0) = true := by simpa using hz
      clear hz
      go_wp2
      go_ret
      exact ⟨rfl, HKZ.out.trans K.out⟩
    obtain rfl : c = 0 := Decidable.of_not_not hz
    clear hz hcc
    obtain ⟨c1, u1, hu1⟩ : ∃ c u, usedSt s x = (c, u) := ⟨_, _, rfl⟩
    have hcc1 := bne_own c1
    have HUL1 := Lib.hid (show u1.length ≤ 8 by have := usedSt_len s x; rw [hu1] at this; exact this)
    have HU1 := Lib.hid hu1
    go_wp2_with fail
    refine (usedR HS.out x HL.out).mono ?_
    rw [hu1]
    rintro e q11 ⟨y11, rfl, hy, kk⟩
    have HQS := Lib.hid (HQS.out.kept kk)
    have HQX := Lib.hid (HQX.out.kept kk)
    have HS := Lib.hid (HS.out.kept kk)
    have HX := Lib.hid (HX.out.kept kk)
    have K := Lib.hid (K.out.trans kk)
    have HY1 := Lib.hid (show Vec.Reads q11 y11 u1 from hy)
    clear hy kk
    clear sq0 sq1 sq2 xq0 xq1 xq2
    have sq0 := HQS.out.at_ 0 _ rfl
    have sq1 := HQS.out.at_ 1 _ rfl
    have sq2 := HQS.out.at_ 2 _ rfl
    have xq0 := HQX.out.at_ 0 _ rfl
    have xq1 := HQX.out.at_ 1 _ rfl
    have xq2 := HQX.out.at_ 2 _ rfl
    go_wp2_with fail
    refine (rusedStR HX.out x).mono ?_
    rw [HU1.out]
    rintro e q12 ⟨y12, rfl, hy, kk⟩
    have HQS := Lib.hid (HQS.out.kept kk)
    have HQX := Lib.hid (HQX.out.kept kk)
    have HS := Lib.hid (HS.out.kept kk)
    have HX := Lib.hid (HX.out.kept kk)
    have HY1 := Lib.hid (HY1.out.kept kk)
    have K := Lib.hid (K.out.trans kk)
    have HV1 := Lib.hid (show Vec.Reads q12 y12 u1 from hy)
    clear hy kk hu1
    clear sq0 sq1 sq2 xq0 xq1 xq2
    have sq0 := HQS.out.at_ 0 _ rfl
    have sq1 := HQS.out.at_ 1 _ rfl
    have sq2 := HQS.out.at_ 2 _ rfl
    have xq0 := HQX.out.at_ 0 _ rfl
    have xq1 := HQX.out.at_ 1 _ rfl
    have xq2 := HQX.out.at_ 2 _ rfl
    go_wp2_with fail
    refine (ofVR HY1.out HUL1.out).mono ?_
    rintro e q13 ⟨y13, rfl, hy, kk⟩
    have HQS := Lib.hid (HQS.out.kept kk)
    have HQX := Lib.hid (HQX.out.kept kk)
    have HS := Lib.hid (HS.out.kept kk)
    have HX := Lib.hid (HX.out.kept kk)
    have HY1 := Lib.hid (HY1.out.kept kk)
    have HV1 := Lib.hid (HV1.out.kept kk)
    have K := Lib.hid (K.out.trans kk)
    have HO1 := Lib.hid hy
    clear hy kk
    clear sq0 sq1 sq2 xq0 xq1 xq2
    have sq0 := HQS.out.at_ 0 _ rfl
    have sq1 := HQS.out.at_ 1 _ rfl
    have sq2 := HQS.out.at_ 2 _ rfl
    have xq0 := HQX.out.at_ 0 _ rfl
    have xq1 := HQX.out.at_ 1 _ rfl
    have xq2 := HQX.out.at_ 2 _ rfl
    go_wp2_with fail
    refine (sameVecR (c := true) HO1.out HV1.out (sameFrom_self _)).mono ?_
    rintro e q14 ⟨rfl, kk⟩
    have HQS := Lib.hid (HQS.out.kept kk)
    have HQX := Lib.hid (HQX.out.kept kk)
    have HS := Lib.hid (HS.out.kept kk)
    have HX := Lib.hid (HX.out.kept kk)
    have HY1 := Lib.hid (HY1.out.kept kk)
    have HV1 := Lib.hid (HV1.out.kept kk)
    have K := Lib.hid (K.out.trans kk)
    clear kk HY1 HV1 HO1
    clear sq0 sq1 sq2 xq0 xq1 xq2
    have sq0 := HQS.out.at_ 0 _ rfl
    have sq1 := HQS.out.at_ 1 _ rfl
    have sq2 := HQS.out.at_ 2 _ rfl
    have xq0 := HQX.out.at_ 0 _ rfl
    have xq1 := HQX.out.at_ 1 _ rfl
    have xq2 := HQX.out.at_ 2 _ rfl
    obtain ⟨c2, u2, hu2⟩ : ∃ c u, freeSt s x = (c, u) := ⟨_, _, rfl⟩
    have hcc2 := bne_own c2
    have HUL2 := Lib.hid (show u2.length ≤ 8 by have := freeSt_len s x; rw [hu2] at this; exact this)
    have HU2 := Lib.hid hu2
    go_wp2_with fail
    refine (freeR HS.out x HL.out).mono ?_
    rw [hu2]
    rintro e q21 ⟨y21, rfl, hy, kk⟩
    have HQS := Lib.hid (HQS.out.kept kk)
    have HQX := Lib.hid (HQX.out.kept kk)
    have HS := Lib.hid (HS.out.kept kk)
    have HX := Lib.hid (HX.out.kept kk)
    have K := Lib.hid (K.out.trans kk)
    have HY2 := Lib.hid (show Vec.Reads q21 y21 u2 from hy)
    clear hy kk
    clear sq0 sq1 sq2 xq0 xq1 xq2
    have sq0 := HQS.out.at_ 0 _ rfl
    have sq1 := HQS.out.at_ 1 _ rfl
    have sq2 := HQS.out.at_ 2 _ rfl
    have xq0 := HQX.out.at_ 0 _ rfl
    have xq1 := HQX.out.at_ 1 _ rfl
    have xq2 := HQX.out.at_ 2 _ rfl
    go_wp2_with fail
    refine (rfreeStR HX.out x).mono ?_
    rw [HU2.out]
    rintro e q22 ⟨y22, rfl, hy, kk⟩
    have HQS := Lib.hid (HQS.out.kept kk)
    have HQX := Lib.hid (HQX.out.kept kk)
    have HS := Lib.hid (HS.out.kept kk)
    have HX := Lib.hid (HX.out.kept kk)
    have HY2 := Lib.hid (HY2.out.kept kk)
    have K := Lib.hid (K.out.trans kk)
    have HV2 := Lib.hid (show Vec.Reads q22 y22 u2 from hy)
    clear hy kk hu2
    clear sq0 sq1 sq2 xq0 xq1 xq2
    have sq0 := HQS.out.at_ 0 _ rfl
    have sq1 := HQS.out.at_ 1 _ rfl
    have sq2 := HQS.out.at_ 2 _ rfl
    have xq0 := HQX.out.at_ 0 _ rfl
    have xq1 := HQX.out.at_ 1 _ rfl
    have xq2 := HQX.out.at_ 2 _ rfl
    go_wp2_with fail
    refine (ofVR HY2.out HUL2.out).mono ?_
    rintro e q23 ⟨y23, rfl, hy, kk⟩
    have HQS := Lib.hid (HQS.out.kept kk)
    have HQX := Lib.hid (HQX.out.kept kk)
    have HS := Lib.hid (HS.out.kept kk)
    have HX := Lib.hid (HX.out.kept kk)
    have HY2 := Lib.hid (HY2.out.kept kk)
    have HV2 := Lib.hid (HV2.out.kept kk)
    have K := Lib.hid (K.out.trans kk)
    have HO2 := Lib.hid hy
    clear hy kk
    clear sq0 sq1 sq2 xq0 xq1 xq2
    have sq0 := HQS.out.at_ 0 _ rfl
    have sq1 := HQS.out.at_ 1 _ rfl
    have sq2 := HQS.out.at_ 2 _ rfl
    have xq0 := HQX.out.at_ 0 _ rfl
    have xq1 := HQX.out.at_ 1 _ rfl
    have xq2 := HQX.out.at_ 2 _ rfl
    go_wp2_with fail
    refine (sameVecR (c := true) HO2.out HV2.out (sameFrom_self _)).mono ?_
    rintro e q24 ⟨rfl, kk⟩
    have HQS := Lib.hid (HQS.out.kept kk)
    have HQX := Lib.hid (HQX.out.kept kk)
    have HS := Lib.hid (HS.out.kept kk)
    have HX := Lib.hid (HX.out.kept kk)
    have HY2 := Lib.hid (HY2.out.kept kk)
    have HV2 := Lib.hid (HV2.out.kept kk)
    have K := Lib.hid (K.out.trans kk)
    clear kk HY2 HV2 HO2
    clear sq0 sq1 sq2 xq0 xq1 xq2
    have sq0 := HQS.out.at_ 0 _ rfl
    have sq1 := HQS.out.at_ 1 _ rfl
    have sq2 := HQS.out.at_ 2 _ rfl
    have xq0 := HQX.out.at_ 0 _ rfl
    have xq1 := HQX.out.at_ 1 _ rfl
    have xq2 := HQX.out.at_ 2 _ rfl
    obtain ⟨c3, u3, hu3⟩ : ∃ c u, totalSt s = (c, u) := ⟨_, _, rfl⟩
    have hcc3 := bne_own c3
    have HUL3 := Lib.hid (show u3.length ≤ 8 by have := totalSt_len s; rw [hu3] at this; exact this)
    have HU3 := Lib.hid hu3
    go_wp2_with fail
    refine (totalR HS.out).mono ?_
    rw [hu3]
    rintro e q31 ⟨y31, rfl, hy, kk⟩
    have HQS := Lib.hid (HQS.out.kept kk)
    have HQX := Lib.hid (HQX.out.kept kk)
    have HS := Lib.hid (HS.out.kept kk)
    have HX := Lib.hid (HX.out.kept kk)
    have K := Lib.hid (K.out.trans kk)
    have HY3 := Lib.hid (show Vec.Reads q31 y31 u3 from hy)
    clear hy kk
    clear sq0 sq1 sq2 xq0 xq1 xq2
    have sq0 := HQS.out.at_ 0 _ rfl
    have sq1 := HQS.out.at_ 1 _ rfl
    have sq2 := HQS.out.at_ 2 _ rfl
    have xq0 := HQX.out.at_ 0 _ rfl
    have xq1 := HQX.out.at_ 1 _ rfl
    have xq2 := HQX.out.at_ 2 _ rfl
    go_wp2_with fail
    refine (rtotalStR HX.out).mono ?_
    rw [HU3.out]
    rintro e q32 ⟨y32, rfl, hy, kk⟩
    have HQS := Lib.hid (HQS.out.kept kk)
    have HQX := Lib.hid (HQX.out.kept kk)
    have HS := Lib.hid (HS.out.kept kk)
    have HX := Lib.hid (HX.out.kept kk)
    have HY3 := Lib.hid (HY3.out.kept kk)
    have K := Lib.hid (K.out.trans kk)
    have HV3 := Lib.hid (show Vec.Reads q32 y32 u3 from hy)
    clear hy kk hu3
    clear sq0 sq1 sq2 xq0 xq1 xq2
    have sq0 := HQS.out.at_ 0 _ rfl
    have sq1 := HQS.out.at_ 1 _ rfl
    have sq2 := HQS.out.at_ 2 _ rfl
    have xq0 := HQX.out.at_ 0 _ rfl
    have xq1 := HQX.out.at_ 1 _ rfl
    have xq2 := HQX.out.at_ 2 _ rfl
    go_wp2_with fail
    refine (ofVR HY3.out HUL3.out).mono ?_
    rintro e q33 ⟨y33, rfl, hy, kk⟩
    have HQS := Lib.hid (HQS.out.kept kk)
    have HQX := Lib.hid (HQX.out.kept kk)
    have HS := Lib.hid (HS.out.kept kk)
    have HX := Lib.hid (HX.out.kept kk)
    have HY3 := Lib.hid (HY3.out.kept kk)
    have HV3 := Lib.hid (HV3.out.kept kk)
    have K := Lib.hid (K.out.trans kk)
    have HO3 := Lib.hid hy
    clear hy kk
    clear sq0 sq1 sq2 xq0 xq1 xq2
    have sq0 := HQS.out.at_ 0 _ rfl
    have sq1 := HQS.out.at_ 1 _ rfl
    have sq2 := HQS.out.at_ 2 _ rfl
    have xq0 := HQX.out.at_ 0 _ rfl
    have xq1 := HQX.out.at_ 1 _ rfl
    have xq2 := HQX.out.at_ 2 _ rfl
    go_wp2_with fail
    refine (sameVecR (c := true) HO3.out HV3.out (sameFrom_self _)).mono ?_
    rintro e q34 ⟨rfl, kk⟩
    have HQS := Lib.hid (HQS.out.kept kk)
    have HQX := Lib.hid (HQX.out.kept kk)
    have HS := Lib.hid (HS.out.kept kk)
    have HX := Lib.hid (HX.out.kept kk)
    have HY3 := Lib.hid (HY3.out.kept kk)
    have HV3 := Lib.hid (HV3.out.kept kk)
    have K := Lib.hid (K.out.trans kk)
    clear kk HY3 HV3 HO3
    clear sq0 sq1 sq2 xq0 xq1 xq2
    have sq0 := HQS.out.at_ 0 _ rfl
    have sq1 := HQS.out.at_ 1 _ rfl
    have sq2 := HQS.out.at_ 2 _ rfl
    have xq0 := HQX.out.at_ 0 _ rfl
    have xq1 := HQX.out.at_ 1 _ rfl
    have xq2 := HQX.out.at_ 2 _ rfl
    obtain ⟨l, hl⟩ : ∃ l, onP x s.pods = l := ⟨_, rfl⟩
    have HLL := Lib.hid hl
    have HLOW := Lib.hid (show ∀ n ∈ l, LowPd n from fun n hn => by
      rw [← hl] at hn
      unfold onP at hn
      split at hn
      · cases hn
      · exact HL.out.pods n (List.mem_filter.1 hn).1)
    go_wp2_with fail
    refine (onR HS.out x HL.out).mono ?_
    rw [hl]
    rintro e v1 ⟨y1, rfl, hy, kk⟩
    have HQS := Lib.hid (HQS.out.kept kk)
    have HQX := Lib.hid (HQX.out.kept kk)
    have HS := Lib.hid (HS.out.kept kk)
    have HX := Lib.hid (HX.out.kept kk)
    have K := Lib.hid (K.out.trans kk)
    obtain ⟨la, ln, lc, rfl, hq1, hq2, hln⟩ := hy.shape
    have hlnm : ln ≤ 9223372036854775807 := by unfold maxLen at hq2; omega
    clear hq1 hq2
    have HLA := Lib.hid hy
    clear hy kk
    clear sq0 sq1 sq2 xq0 xq1 xq2
    have sq0 := HQS.out.at_ 0 _ rfl
    have sq1 := HQS.out.at_ 1 _ rfl
    have sq2 := HQS.out.at_ 2 _ rfl
    have xq0 := HQX.out.at_ 0 _ rfl
    have xq1 := HQX.out.at_ 1 _ rfl
    have xq2 := HQX.out.at_ 2 _ rfl
    go_wp2_with fail
    refine (ronStR HX.out x (by have := HLEN.out.2.1; omega)).mono ?_
    rw [HLL.out]
    rintro e v2 ⟨y2, rfl, hy, kk⟩
    have HQS := Lib.hid (HQS.out.kept kk)
    have HQX := Lib.hid (HQX.out.kept kk)
    have HS := Lib.hid (HS.out.kept kk)
    have HX := Lib.hid (HX.out.kept kk)
    have HLA := Lib.hid (HLA.out.kept kk)
    have K := Lib.hid (K.out.trans kk)
    obtain ⟨ra, rn, rc, rfl, -, -, hrn⟩ := hy.shape
    obtain rfl : ln = rn := hln.symm.trans hrn
    have HLR := Lib.hid hy
    clear hy kk hl hrn
    clear sq0 sq1 sq2 xq0 xq1 xq2
    have sq0 := HQS.out.at_ 0 _ rfl
    have sq1 := HQS.out.at_ 1 _ rfl
    have sq2 := HQS.out.at_ 2 _ rfl
    have xq0 := HQX.out.at_ 0 _ rfl
    have xq1 := HQX.out.at_ 1 _ rfl
    have xq2 := HQX.out.at_ 2 _ rfl
    have hlnn := bne_own (ln : Int)
    have HPA := Lib.hid (pods_ofR HLA.out)
    have HPB := Lib.hid (pods_ofR HLR.out)
    clear sq0 sq1 sq2 xq0 xq1 xq2
    go_wp2
    go_loopw [13] (fun i wr => ∃ k : Nat, k ≤ ln ∧ i = .int .i64 k ∧ Kept v2 wr) (fun i _ => ln - (intOf i).toNat)
    case atStart => exact ⟨0, Nat.zero_le _, rfl, Kept.refl _⟩
    case round =>
      obtain ⟨k, hk, rfl, hK⟩ := hrel
      have HK := Lib.hid hK
      by_cases hlt : k < ln
      · have hkk : (k : Int) < (ln : Int) := by omega
        have hk0 : ¬ (k : Int) < 0 := by omega
        obtain ⟨b8, off, rfl⟩ := HPA.out.form.resolve_left (by omega)
        obtain ⟨f8, off9, rfl⟩ := HPB.out.form.resolve_left (by omega)
        obtain ⟨n9, x1, y1, z1, x2, y2, z2, x3, y3, z3, x4, y4, z4, hn, hd, hb, p0, p1, p2, p3, p4, p5, p6, p7, p8, p9, p10, hat⟩ := (HPA.out.kept hK).at_ hlt
        obtain ⟨k9, r1, s1, t1, r2, s2, t2, r3, s3, t3, r4, s4, t4, hn9, hd9, hb9, q0, q1, q2, q3, q4, q5, q6, q7, q8, q9, q10, hat9⟩ := (HPB.out.kept hK).at_ hlt
        have he : n9 = k9 := Option.some.inj (hn.symm.trans hn9)
        have HE := Lib.hid he
        have HLP := Lib.hid (HLOW.out n9 (List.mem_of_getElem? hn))
        have HF := Lib.hid (show ∀ W, Kept wr W → W.cell? ⟨b8, off + k * 11, none⟩ = some (.string n9.name) ∧ W.cell? ⟨b8, off + k * 11 + 1, none⟩ = some (.string n9.owner) ∧ W.cell? ⟨b8, off + k * 11 + 2, none⟩ = some (.int .i64 n9.prio) ∧ W.cell? ⟨b8, off + k * 11 + 3, none⟩ = some (.slice x1 y1 z1) ∧ W.cell? ⟨b8, off + k * 11 + 4, none⟩ = some (.slice x2 y2 z2) ∧ W.cell? ⟨b8, off + k * 11 + 5, none⟩ = some (.slice x3 y3 z3) ∧ W.cell? ⟨b8, off + k * 11 + 6, none⟩ = some (.slice x4 y4 z4) ∧ W.cell? ⟨b8, off + k * 11 + 7, none⟩ = some (.string n9.key) ∧ W.cell? ⟨b8, off + k * 11 + 8, none⟩ = some (.int .i64 n9.most) ∧ W.cell? ⟨b8, off + k * 11 + 9, none⟩ = some (.string n9.node) ∧ W.cell? ⟨b8, off + k * 11 + 10, none⟩ = some (.bool n9.hold) ∧ W.cell? ⟨f8, off9 + k * 11, none⟩ = some (.string k9.name) ∧ W.cell? ⟨f8, off9 + k * 11 + 1, none⟩ = some (.string k9.owner) ∧ W.cell? ⟨f8, off9 + k * 11 + 2, none⟩ = some (.int .i64 k9.prio) ∧ W.cell? ⟨f8, off9 + k * 11 + 3, none⟩ = some (.slice r1 s1 t1) ∧ W.cell? ⟨f8, off9 + k * 11 + 4, none⟩ = some (.slice r2 s2 t2) ∧ W.cell? ⟨f8, off9 + k * 11 + 5, none⟩ = some (.slice r3 s3 t3) ∧ W.cell? ⟨f8, off9 + k * 11 + 6, none⟩ = some (.slice r4 s4 t4) ∧ W.cell? ⟨f8, off9 + k * 11 + 7, none⟩ = some (.string k9.key) ∧ W.cell? ⟨f8, off9 + k * 11 + 8, none⟩ = some (.int .i64 k9.most) ∧ W.cell? ⟨f8, off9 + k * 11 + 9, none⟩ = some (.string k9.node) ∧ W.cell? ⟨f8, off9 + k * 11 + 10, none⟩ = some (.bool k9.hold) from fun W kk => ⟨cell_later kk p0, cell_later kk p1, cell_later kk p2, cell_later kk p3, cell_later kk p4, cell_later kk p5, cell_later kk p6, cell_later kk p7, cell_later kk p8, cell_later kk p9, cell_later kk p10, cell_later kk q0, cell_later kk q1, cell_later kk q2, cell_later kk q3, cell_later kk q4, cell_later kk q5, cell_later kk q6, cell_later kk q7, cell_later kk q8, cell_later kk q9, cell_later kk q10⟩)
        have HA := Lib.hid (show ∀ W, Kept wr W → PodR W (PodV n9 (.slice x1 y1 z1) (.slice x2 y2 z2) (.slice x3 y3 z3) (.slice x4 y4 z4)) n9 from fun W kk => ⟨_, _, _, _, rfl, hat.kept kk⟩)
        have HB := Lib.hid (show ∀ W, Kept wr W → PodR W (PodV k9 (.slice r1 s1 t1) (.slice r2 s2 t2) (.slice r3 s3 t3) (.slice r4 s4 t4)) k9 from fun W kk => ⟨_, _, _, _, rfl, hat9.kept kk⟩)
        unfold PodV at HA HB
        clear hK hat hat9 hn hn9 hd hd9 hb hb9 he p0 q0 p1 q1 p2 q2 p3 q3 p4 q4 p5 q5 p6 q6 p7 q7 p8 q8 p9 q9 p10 q10
        go_upto_region 30 with fail
        have J := Lib.hid (Kept.drew wr)
        refine wp_region_held_drew (S := fun W => W.cell? ⟨b8, off + k * 11, none⟩ = some (.string n9.name) ∧ W.cell? ⟨b8, off + k * 11 + 1, none⟩ = some (.string n9.owner) ∧ W.cell? ⟨b8, off + k * 11 + 2, none⟩ = some (.int .i64 n9.prio) ∧ W.cell? ⟨b8, off + k * 11 + 3, none⟩ = some (.slice x1 y1 z1) ∧ W.cell? ⟨b8, off + k * 11 + 4, none⟩ = some (.slice x2 y2 z2) ∧ W.cell? ⟨b8, off + k * 11 + 5, none⟩ = some (.slice x3 y3 z3) ∧ W.cell? ⟨b8, off + k * 11 + 6, none⟩ = some (.slice x4 y4 z4) ∧ W.cell? ⟨b8, off + k * 11 + 7, none⟩ = some (.string n9.key) ∧ W.cell? ⟨b8, off + k * 11 + 8, none⟩ = some (.int .i64 n9.most) ∧ W.cell? ⟨b8, off + k * 11 + 9, none⟩ = some (.string n9.node) ∧ W.cell? ⟨b8, off + k * 11 + 10, none⟩ = some (.bool n9.hold) ∧ W.cell? ⟨f8, off9 + k * 11, none⟩ = some (.string k9.name) ∧ W.cell? ⟨f8, off9 + k * 11 + 1, none⟩ = some (.string k9.owner) ∧ W.cell? ⟨f8, off9 + k * 11 + 2, none⟩ = some (.int .i64 k9.prio) ∧ W.cell? ⟨f8, off9 + k * 11 + 3, none⟩ = some (.slice r1 s1 t1) ∧ W.cell? ⟨f8, off9 + k * 11 + 4, none⟩ = some (.slice r2 s2 t2) ∧ W.cell? ⟨f8, off9 + k * 11 + 5, none⟩ = some (.slice r3 s3 t3) ∧ W.cell? ⟨f8, off9 + k * 11 + 6, none⟩ = some (.slice r4 s4 t4) ∧ W.cell? ⟨f8, off9 + k * 11 + 7, none⟩ = some (.string k9.key) ∧ W.cell? ⟨f8, off9 + k * 11 + 8, none⟩ = some (.int .i64 k9.most) ∧ W.cell? ⟨f8, off9 + k * 11 + 9, none⟩ = some (.string k9.node) ∧ W.cell? ⟨f8, off9 + k * 11 + 10, none⟩ = some (.bool k9.hold)) (by kernel_rfl) (HF.out _ J.out) (fun hHeld => ?_)
        refine wpAnyH_take (i := 0) (v := ?_) (by rw [List.getElem?_toArray]; exact rfl) (by kernel_rfl) (by kernel_rfl) (by kernel_rfl) (by exact fun _ _ _ h => h) (Or.inl ⟨by rfl, (by intro W hSw; obtain ⟨o0, o1, o2, o3, o4, o5, o6, o7, o8, o9, o10, o11, o12, o13, o14, o15, o16, o17, o18, o19, o20, o21⟩ := hSw; go_simp <;> with_reducible rfl)⟩) (by assumption) ?_
        try simp only [Act.put, List.setIfInBounds_toArray, List.set_cons_zero, List.set_cons_succ]
        refine wpAnyH_take (i := 1) (v := ?_) (by rw [List.getElem?_toArray]; exact rfl) (by kernel_rfl) (by kernel_rfl) (by kernel_rfl) (by exact fun _ _ _ h => h) (Or.inl ⟨by rfl, (by intro W hSw; obtain ⟨o0, o1, o2, o3, o4, o5, o6, o7, o8, o9, o10, o11, o12, o13, o14, o15, o16, o17, o18, o19, o20, o21⟩ := hSw; go_simp <;> with_reducible rfl)⟩) (by assumption) ?_
        try simp only [Act.put, List.setIfInBounds_toArray, List.set_cons_zero, List.set_cons_succ]
        refine wpAnyH_take (i := 2) (v := ?_) (by rw [List.getElem?_toArray]; exact rfl) (by kernel_rfl) (by kernel_rfl) (by kernel_rfl) (by exact fun _ _ _ h => h) (Or.inl ⟨by rfl, (by intro W hSw; obtain ⟨o0, o1, o2, o3, o4, o5, o6, o7, o8, o9, o10, o11, o12, o13, o14, o15, o16, o17, o18, o19, o20, o21⟩ := hSw; go_simp <;> with_reducible rfl)⟩) (by assumption) ?_
        try simp only [Act.put, List.setIfInBounds_toArray, List.set_cons_zero, List.set_cons_succ]
        refine wpAnyH_take (i := 3) (v := ?_) (by rw [List.getElem?_toArray]; exact rfl) (by kernel_rfl) (by kernel_rfl) (by kernel_rfl) (by exact fun _ _ _ h => h) (Or.inl ⟨by rfl, (by intro W hSw; obtain ⟨o0, o1, o2, o3, o4, o5, o6, o7, o8, o9, o10, o11, o12, o13, o14, o15, o16, o17, o18, o19, o20, o21⟩ := hSw; go_simp <;> with_reducible rfl)⟩) (by assumption) ?_
        try simp only [Act.put, List.setIfInBounds_toArray, List.set_cons_zero, List.set_cons_succ]
        refine wpAnyH_take (i := 5) (v := ?_) (by rw [List.getElem?_toArray]; exact rfl) (by kernel_rfl) (by kernel_rfl) (by kernel_rfl) (by exact fun _ _ _ h => h) (Or.inl ⟨by rfl, (by intro W hSw; obtain ⟨o0, o1, o2, o3, o4, o5, o6, o7, o8, o9, o10, o11, o12, o13, o14, o15, o16, o17, o18, o19, o20, o21⟩ := hSw; go_simp <;> with_reducible rfl)⟩) (by assumption) ?_
        try simp only [Act.put, List.setIfInBounds_toArray, List.set_cons_zero, List.set_cons_succ]
        refine wpAnyH_take (i := 6) (v := ?_) (by rw [List.getElem?_toArray]; exact rfl) (by kernel_rfl) (by kernel_rfl) (by kernel_rfl) (by exact fun _ _ _ h => h) (Or.inl ⟨by rfl, (by intro W hSw; obtain ⟨o0, o1, o2, o3, o4, o5, o6, o7, o8, o9, o10, o11, o12, o13, o14, o15, o16, o17, o18, o19, o20, o21⟩ := hSw; go_simp <;> with_reducible rfl)⟩) (by assumption) ?_
        try simp only [Act.put, List.setIfInBounds_toArray, List.set_cons_zero, List.set_cons_succ]
        refine wpAnyH_take (i := 7) (v := ?_) (by rw [List.getElem?_toArray]; exact rfl) (by kernel_rfl) (by kernel_rfl) (by kernel_rfl) (by exact fun _ _ _ h => h) (Or.inl ⟨by rfl, (by intro W hSw; obtain ⟨o0, o1, o2, o3, o4, o5, o6, o7, o8, o9, o10, o11, o12, o13, o14, o15, o16, o17, o18, o19, o20, o21⟩ := hSw; go_simp <;> with_reducible rfl)⟩) (by assumption) ?_
        try simp only [Act.put, List.setIfInBounds_toArray, List.set_cons_zero, List.set_cons_succ]
        refine wpAnyH_take (i := 8) (v := ?_) (by rw [List.getElem?_toArray]; exact rfl) (by kernel_rfl) (by kernel_rfl) (by kernel_rfl) (by exact fun _ _ _ h => h) (Or.inl ⟨by rfl, (by intro W hSw; obtain ⟨o0, o1, o2, o3, o4, o5, o6, o7, o8, o9, o10, o11, o12, o13, o14, o15, o16, o17, o18, o19, o20, o21⟩ := hSw; go_simp <;> with_reducible rfl)⟩) (by assumption) ?_
        try simp only [Act.put, List.setIfInBounds_toArray, List.set_cons_zero, List.set_cons_succ]
        refine wpAnyH_ready (rs := [4]) (by kernel_rfl) (by simp) (AllReadyH.cons (by rw [List.getElem?_toArray]; exact rfl) (fun K9 hK9 => ?_) AllReadyH.nil)
        go_simp
        refine (ofPdR (HA.out _ J.out) HLP.out).mono ?_
        rintro e r1 ⟨y1, rfl, hy, kk⟩
        have J := Lib.hid (J.out.trans kk)
        have HY := Lib.hid hy
        clear hy kk
        refine hK9.out _ _ (HF.out _ J.out) (fun hHeld1 => ?_)
        clear hK9 K9
        try simp only [Act.put, List.setIfInBounds_toArray, List.set_cons_zero, List.set_cons_succ]
        refine wpAnyH_ready (rs := [9]) (by kernel_rfl) (by simp) (AllReadyH.cons (by rw [List.getElem?_toArray]; exact rfl) (fun K9 hK9 => ?_) AllReadyH.nil)
        go_simp
        refine (rsamePodR (b := true) HY.out (HB.out _ J.out) (by rw [HE.out]; exact samePd_self _)).mono ?_
        rintro e r2 ⟨rfl, kk⟩
        have J := Lib.hid (J.out.trans kk)
        clear kk HY
        refine hK9.out _ _ (HF.out _ J.out) (fun hHeld2 => ?_)
        clear hK9 K9
        try simp only [Act.put, List.setIfInBounds_toArray, List.set_cons_zero, List.set_cons_succ]
        refine wpAnyH_take (i := 10) (v := ?_) (by rw [List.getElem?_toArray]; exact rfl) (by kernel_rfl) (by kernel_rfl) (by kernel_rfl) (by exact fun _ _ _ h => h) (Or.inl ⟨by rfl, (by intro W hSw; obtain ⟨o0, o1, o2, o3, o4, o5, o6, o7, o8, o9, o10, o11, o12, o13, o14, o15, o16, o17, o18, o19, o20, o21⟩ := hSw; go_simp <;> with_reducible rfl)⟩) (by assumption) ?_
        try simp only [Act.put, List.setIfInBounds_toArray, List.set_cons_zero, List.set_cons_succ]
        refine wpAnyH_done (by kernel_rfl) ?_ _
        go_wp2
        go_roundw
        case rel => exact ⟨k + 1, by omega, by go_num, HK.out.trans J.out⟩
        case measure => simp [intOf]; omega
      · have hkk : ¬ (k : Int) < (ln : Int) := by omega
        clear hK
        go_wp2
        go_ret
        exact ⟨rfl, HKZ.out.trans (K.out.trans HK.out)⟩

end Go.Proofs.YtfpgekjhcfoohabGreat
