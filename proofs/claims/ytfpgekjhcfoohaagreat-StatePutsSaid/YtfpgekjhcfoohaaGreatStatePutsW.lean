/- What is put is there, once; what is dropped is not; put again all is as it was: the law, walked. -/
import Derived.Test.YtfpgekjhcfoohaaGreatStD
import Derived.Test.YtfpgekjhcfoohaaGreatStE
import Derived.Test.YtfpgekjhcfoohaaGreatPodFew
import Derived.Test.YtfpgekjhcfoohaaGreatStA
import Derived.Deep.RegionHeld3
namespace Go.Proofs.YtfpgekjhcfoohaaGreat
open Go.RowKit
set_option linter.unusedVariables false

set_option maxRecDepth 100000 in
set_option maxHeartbeats 25600000 in
theorem StatePuts_walk (v : Value) (s : Clu) (u : Value) (p : Pd) (w : World) (h : CluR w v s) (g : PodR w u p) : Calls Tryz.prog 5 #[v, u] w fun e w' => e = .returned (.bool true) ∧ Kept w w' := by
  have h0 := h
  obtain ⟨_, _, _, rfl, ⟨sa1, sc1, rfl, -, -, -⟩, ⟨sa2, sc2, rfl, -, -, -⟩, ⟨sa3, sc3, rfl, -, -, -⟩⟩ := h0
  skip
  obtain ⟨sl1, hsl1⟩ : ∃ q, (s).nodes.length = q := ⟨_, rfl⟩
  rw [hsl1] at h
  try rw [hsl1]
  obtain ⟨sl2, hsl2⟩ : ∃ q, (s).pods.length = q := ⟨_, rfl⟩
  rw [hsl2] at h
  try rw [hsl2]
  obtain ⟨sl3, hsl3⟩ : ∃ q, (s).buds.length = q := ⟨_, rfl⟩
  rw [hsl3] at h
  try rw [hsl3]
  have g0 := g
  obtain ⟨_, _, _, _, rfl, hatp⟩ := g0
  have g1 := hatp.need
  have g2 := hatp.labels
  have g3 := hatp.sel
  have g4 := hatp.tols
  obtain ⟨pa1, pc1, rfl, -, -, -⟩ := g1
  obtain ⟨pa2, pc2, rfl, -, -, -⟩ := g2
  obtain ⟨pa3, pc3, rfl, -, -, -⟩ := g3
  obtain ⟨pa4, pc4, rfl, -, -, -⟩ := g4
  obtain ⟨pl1, hpl1⟩ : ∃ q, (p).need.length = q := ⟨_, rfl⟩
  rw [hpl1] at g
  try rw [hpl1]
  clear hpl1
  obtain ⟨pl2, hpl2⟩ : ∃ q, (p).labels.length = q := ⟨_, rfl⟩
  rw [hpl2] at g
  try rw [hpl2]
  clear hpl2
  obtain ⟨pl3, hpl3⟩ : ∃ q, (p).sel.length = q := ⟨_, rfl⟩
  rw [hpl3] at g
  try rw [hpl3]
  clear hpl3
  obtain ⟨pl4, hpl4⟩ : ∃ q, (p).tols.length = q := ⟨_, rfl⟩
  rw [hpl4] at g
  try rw [hpl4]
  clear hpl4
  clear hatp
  try unfold PodV
  clear hsl1 hsl3
  obtain ⟨Z, hZ⟩ : ∃ Z, (w.alloc (.cells #[.slice sa1 sl1 sc1, .slice sa2 sl2 sc2, .slice sa3 sl3 sc3] 26)).alloc (.cells #[.string p.name, .string p.owner, .int .i64 p.prio, .slice pa1 pl1 pc1, .slice pa2 pl2 pc2, .slice pa3 pl3 pc3, .slice pa4 pl4 pc4, .string p.key, .int .i64 p.most, .string p.node, .bool p.hold] 49) = Z := ⟨_, rfl⟩
  have hkz : Kept w Z := by rw [← hZ]; exact kept_two _ _ _
  have HQS := Lib.hid (show CellsN w.heap.size [.slice sa1 sl1 sc1, .slice sa2 sl2 sc2, .slice sa3 sl3 sc3] Z from freshN w (.slice sa1 sl1 sc1) [.slice sa2 sl2 sc2, .slice sa3 sl3 sc3] 26 Z (by rw [← hZ]; exact kept_alloc _ _))
  have HQP := Lib.hid (show CellsN (w.heap.size + 1) [.string p.name, .string p.owner, .int .i64 p.prio, .slice pa1 pl1 pc1, .slice pa2 pl2 pc2, .slice pa3 pl3 pc3, .slice pa4 pl4 pc4, .string p.key, .int .i64 p.most, .string p.node, .bool p.hold] Z by
    have dd := freshN (w.alloc (.cells #[.slice sa1 sl1 sc1, .slice sa2 sl2 sc2, .slice sa3 sl3 sc3] 26)) (.string p.name) [.string p.owner, .int .i64 p.prio, .slice pa1 pl1 pc1, .slice pa2 pl2 pc2, .slice pa3 pl3 pc3, .slice pa4 pl4 pc4, .string p.key, .int .i64 p.most, .string p.node, .bool p.hold] 49 Z (by rw [hZ]; exact Kept.refl _)
    rw [World.size_alloc] at dd
    exact dd)
  have HS := Lib.hid (h.kept hkz)
  have HPD := Lib.hid (g.kept hkz)
  have HKZ := Lib.hid hkz
  clear h g hkz
  unfold CluV at HS
  unfold PodV at HPD
  have K := Lib.hid (Kept.refl Z)
  go_enter Tryz.func5, Tryz.ntmps5
  go_wp2_with fail
  try rw [hZ]
  clear hZ
  refine (knownSt_any Z).mono ?_
  rintro e w1 ⟨rfl, kk⟩
  have HQS := Lib.hid (HQS.out.kept kk)
  have HQP := Lib.hid (HQP.out.kept kk)
  have HS := Lib.hid (HS.out.kept kk)
  have HPD := Lib.hid (HPD.out.kept kk)
  have K := Lib.hid (K.out.trans kk)
  clear kk
  obtain ⟨e1, he1⟩ : ∃ e, goodSt s = e := ⟨_, rfl⟩
  obtain ⟨e2, he2⟩ : ∃ e, fewPd p = e := ⟨_, rfl⟩
  obtain ⟨x3, he3⟩ : ∃ e, chkPod p = e := ⟨_, rfl⟩
  have HE1 := Lib.hid he1
  have HE2 := Lib.hid he2
  have sq0 := HQS.out.at_ 0 _ rfl
  have sq1 := HQS.out.at_ 1 _ rfl
  have sq2 := HQS.out.at_ 2 _ rfl
  have pq0 := HQP.out.at_ 0 _ rfl
  have pq1 := HQP.out.at_ 1 _ rfl
  have pq2 := HQP.out.at_ 2 _ rfl
  have pq3 := HQP.out.at_ 3 _ rfl
  have pq4 := HQP.out.at_ 4 _ rfl
  have pq5 := HQP.out.at_ 5 _ rfl
  have pq6 := HQP.out.at_ 6 _ rfl
  have pq7 := HQP.out.at_ 7 _ rfl
  have pq8 := HQP.out.at_ 8 _ rfl
  have pq9 := HQP.out.at_ 9 _ rfl
  have pq10 := HQP.out.at_ 10 _ rfl
  go_wp2_with fail
  refine (goodStR HS.out he1).mono ?_
  rintro e w2 ⟨rfl, kk⟩
  have HQS := Lib.hid (HQS.out.kept kk)
  have HQP := Lib.hid (HQP.out.kept kk)
  have HS := Lib.hid (HS.out.kept kk)
  have HPD := Lib.hid (HPD.out.kept kk)
  have K := Lib.hid (K.out.trans kk)
  clear kk he1
  clear sq0 sq1 sq2 pq0 pq1 pq2 pq3 pq4 pq5 pq6 pq7 pq8 pq9 pq10
  have sq0 := HQS.out.at_ 0 _ rfl
  have sq1 := HQS.out.at_ 1 _ rfl
  have sq2 := HQS.out.at_ 2 _ rfl
  have pq0 := HQP.out.at_ 0 _ rfl
  have pq1 := HQP.out.at_ 1 _ rfl
  have pq2 := HQP.out.at_ 2 _ rfl
  have pq3 := HQP.out.at_ 3 _ rfl
  have pq4 := HQP.out.at_ 4 _ rfl
  have pq5 := HQP.out.at_ 5 _ rfl
  have pq6 := HQP.out.at_ 6 _ rfl
  have pq7 := HQP.out.at_ 7 _ rfl
  have pq8 := HQP.out.at_ 8 _ rfl
  have pq9 := HQP.out.at_ 9 _ rfl
  have pq10 := HQP.out.at_ 10 _ rfl
  cases e1 with
  | false =>
    go_wp2
    go_ret
    exact ⟨rfl, HKZ.out.trans K.out⟩
  | true =>
    go_wp2_with fail
    refine (fewPdR HPD.out he2).mono ?_
    rintro e w3 ⟨rfl, kk⟩
    have HQS := Lib.hid (HQS.out.kept kk)
    have HQP := Lib.hid (HQP.out.kept kk)
    have HS := Lib.hid (HS.out.kept kk)
    have HPD := Lib.hid (HPD.out.kept kk)
    have K := Lib.hid (K.out.trans kk)
    clear kk he2
    clear sq0 sq1 sq2 pq0 pq1 pq2 pq3 pq4 pq5 pq6 pq7 pq8 pq9 pq10
    have sq0 := HQS.out.at_ 0 _ rfl
    have sq1 := HQS.out.at_ 1 _ rfl
    have sq2 := HQS.out.at_ 2 _ rfl
    have pq0 := HQP.out.at_ 0 _ rfl
    have pq1 := HQP.out.at_ 1 _ rfl
    have pq2 := HQP.out.at_ 2 _ rfl
    have pq3 := HQP.out.at_ 3 _ rfl
    have pq4 := HQP.out.at_ 4 _ rfl
    have pq5 := HQP.out.at_ 5 _ rfl
    have pq6 := HQP.out.at_ 6 _ rfl
    have pq7 := HQP.out.at_ 7 _ rfl
    have pq8 := HQP.out.at_ 8 _ rfl
    have pq9 := HQP.out.at_ 9 _ rfl
    have pq10 := HQP.out.at_ 10 _ rfl
    cases e2 with
    | false =>
      go_wp2
      go_ret
      exact ⟨rfl, HKZ.out.trans K.out⟩
    | true =>
      go_wp2_with fail
      refine (checkPR HPD.out he3).mono ?_
      rintro e w4 ⟨rfl, kk⟩
      have HQS := Lib.hid (HQS.out.kept kk)
      have HQP := Lib.hid (HQP.out.kept kk)
      have HS := Lib.hid (HS.out.kept kk)
      have HPD := Lib.hid (HPD.out.kept kk)
      have K := Lib.hid (K.out.trans kk)
      clear kk he3
      clear sq0 sq1 sq2 pq0 pq1 pq2 pq3 pq4 pq5 pq6 pq7 pq8 pq9 pq10
      have sq0 := HQS.out.at_ 0 _ rfl
      have sq1 := HQS.out.at_ 1 _ rfl
      have sq2 := HQS.out.at_ 2 _ rfl
      have pq0 := HQP.out.at_ 0 _ rfl
      have pq1 := HQP.out.at_ 1 _ rfl
      have pq2 := HQP.out.at_ 2 _ rfl
      have pq3 := HQP.out.at_ 3 _ rfl
      have pq4 := HQP.out.at_ 4 _ rfl
      have pq5 := HQP.out.at_ 5 _ rfl
      have pq6 := HQP.out.at_ 6 _ rfl
      have pq7 := HQP.out.at_ 7 _ rfl
      have pq8 := HQP.out.at_ 8 _ rfl
      have pq9 := HQP.out.at_ 9 _ rfl
      have pq10 := HQP.out.at_ 10 _ rfl
      by_cases hx : ¬ x3 = 0
      · have hxn : (x3 != 0) = true := by simpa using hx
        clear hx
        go_wp2
        go_ret
        exact ⟨rfl, HKZ.out.trans K.out⟩
      obtain rfl : x3 = 0 := Decidable.of_not_not hx
      clear hx
      obtain ⟨LS, LS1, LS2, LS3⟩ := few_lowS (good_few HE1.out)
      have HL := Lib.hid LS
      have HLP := Lib.hid (few_lowP HE2.out)
      have HASC := Lib.hid (good_asc HE1.out)
      clear LS HE1 HE2
      have hsm : sl2 ≤ 130 := by rw [← hsl2]; exact LS2
      obtain ⟨o, ho⟩ : ∃ o, findP s.pods p.name = o := ⟨_, rfl⟩
      have HO := Lib.hid ho
      clear LS1 LS2 LS3
      go_wp2_with fail
      refine (findPR (show PodsR _ _ _ from by obtain ⟨_, _, _, e, g⟩ := HS.out; cases e; exact g.pods) p.name HL.out.pods ho).mono ?_
      rintro e w5 ⟨xv, rfl, hv, kk⟩
      have HQS := Lib.hid (HQS.out.kept kk)
      have HQP := Lib.hid (HQP.out.kept kk)
      have HS := Lib.hid (HS.out.kept kk)
      have HPD := Lib.hid (HPD.out.kept kk)
      have K := Lib.hid (K.out.trans kk)
      clear kk ho
      obtain ⟨wp, hwp⟩ : ∃ q, o.getD Pd.zero = q := ⟨_, rfl⟩
      rw [hwp] at hv
      have HWP := Lib.hid hwp
      clear hwp
      have hv0 := hv
      obtain ⟨_, _, _, _, rfl, hatx⟩ := hv0
      have g1 := hatx.need
      have g2 := hatx.labels
      have g3 := hatx.sel
      have g4 := hatx.tols
      obtain ⟨xa1, xc1, rfl, -, -, -⟩ := g1
      obtain ⟨xa2, xc2, rfl, -, -, -⟩ := g2
      obtain ⟨xa3, xc3, rfl, -, -, -⟩ := g3
      obtain ⟨xa4, xc4, rfl, -, -, -⟩ := g4
      obtain ⟨xl1, hxl1⟩ : ∃ q, (wp).need.length = q := ⟨_, rfl⟩
      rw [hxl1] at hv
      try rw [hxl1]
      clear hxl1
      obtain ⟨xl2, hxl2⟩ : ∃ q, (wp).labels.length = q := ⟨_, rfl⟩
      rw [hxl2] at hv
      try rw [hxl2]
      clear hxl2
      obtain ⟨xl3, hxl3⟩ : ∃ q, (wp).sel.length = q := ⟨_, rfl⟩
      rw [hxl3] at hv
      try rw [hxl3]
      clear hxl3
      obtain ⟨xl4, hxl4⟩ : ∃ q, (wp).tols.length = q := ⟨_, rfl⟩
      rw [hxl4] at hv
      try rw [hxl4]
      clear hxl4
      clear hatx
      try unfold PodV
      unfold PodV at hv
      have HWAS := Lib.hid hv
      clear hv
      clear sq0 sq1 sq2 pq0 pq1 pq2 pq3 pq4 pq5 pq6 pq7 pq8 pq9 pq10
      obtain ⟨w6, hw6⟩ : ∃ W, w5.alloc (.cells #[.string wp.name, .string wp.owner, .int .i64 wp.prio, .slice xa1 xl1 xc1, .slice xa2 xl2 xc2, .slice xa3 xl3 xc3, .slice xa4 xl4 xc4, .string wp.key, .int .i64 wp.most, .string wp.node, .bool wp.hold] 49) = W := ⟨_, rfl⟩
      have hkw6 : Kept w5 w6 := by rw [← hw6]; exact kept_alloc _ _
      have HQX := Lib.hid (show CellsN w5.heap.size [.string wp.name, .string wp.owner, .int .i64 wp.prio, .slice xa1 xl1 xc1, .slice xa2 xl2 xc2, .slice xa3 xl3 xc3, .slice xa4 xl4 xc4, .string wp.key, .int .i64 wp.most, .string wp.node, .bool wp.hold] w6 from freshN w5 (.string wp.name) [.string wp.owner, .int .i64 wp.prio, .slice xa1 xl1 xc1, .slice xa2 xl2 xc2, .slice xa3 xl3 xc3, .slice xa4 xl4 xc4, .string wp.key, .int .i64 wp.most, .string wp.node, .bool wp.hold] 49 w6 (by rw [hw6]; exact Kept.refl _))
      have HQS := Lib.hid (HQS.out.kept hkw6)
      have HQP := Lib.hid (HQP.out.kept hkw6)
      have HS := Lib.hid (HS.out.kept hkw6)
      have HPD := Lib.hid (HPD.out.kept hkw6)
      have HWAS := Lib.hid (HWAS.out.kept hkw6)
      have K := Lib.hid (K.out.trans hkw6)
      obtain ⟨xq, hxq⟩ : ∃ g, w5.heap.size = g := ⟨_, rfl⟩
      rw [hxq] at HQX
      have HW := Lib.hid hw6
      clear hw6 hkw6
      go_upto_region 6 with fail
      try rw [HW.out]
      try rw [hxq]
      clear HW hxq
      have sq0 := HQS.out.at_ 0 _ rfl
      have sq1 := HQS.out.at_ 1 _ rfl
      have sq2 := HQS.out.at_ 2 _ rfl
      have pq0 := HQP.out.at_ 0 _ rfl
      have pq1 := HQP.out.at_ 1 _ rfl
      have pq2 := HQP.out.at_ 2 _ rfl
      have pq3 := HQP.out.at_ 3 _ rfl
      have pq4 := HQP.out.at_ 4 _ rfl
      have pq5 := HQP.out.at_ 5 _ rfl
      have pq6 := HQP.out.at_ 6 _ rfl
      have pq7 := HQP.out.at_ 7 _ rfl
      have pq8 := HQP.out.at_ 8 _ rfl
      have pq9 := HQP.out.at_ 9 _ rfl
      have pq10 := HQP.out.at_ 10 _ rfl
      go_wp2_with fail
      refine (putStR HS.out HPD.out HL.out HLP.out).mono ?_
      rintro e w7 ⟨tv, rfl, ht, kk⟩
      have HQS := Lib.hid (HQS.out.kept kk)
      have HQP := Lib.hid (HQP.out.kept kk)
      have HQX := Lib.hid (HQX.out.kept kk)
      have HS := Lib.hid (HS.out.kept kk)
      have HPD := Lib.hid (HPD.out.kept kk)
      have HWAS := Lib.hid (HWAS.out.kept kk)
      have K := Lib.hid (K.out.trans kk)
      clear kk
      have ht0 := ht
      obtain ⟨_, _, _, rfl, ⟨ta1, tc1, rfl, -, -, -⟩, ⟨ta2, tc2, rfl, -, -, -⟩, ⟨ta3, tc3, rfl, -, -, -⟩⟩ := ht0
      skip
      obtain ⟨tl1, htl1⟩ : ∃ q, (putSt s p).nodes.length = q := ⟨_, rfl⟩
      rw [htl1] at ht
      try rw [htl1]
      obtain ⟨tl2, htl2⟩ : ∃ q, (putSt s p).pods.length = q := ⟨_, rfl⟩
      rw [htl2] at ht
      try rw [htl2]
      obtain ⟨tl3, htl3⟩ : ∃ q, (putSt s p).buds.length = q := ⟨_, rfl⟩
      rw [htl3] at ht
      try rw [htl3]
      unfold CluV at ht
      have HT := Lib.hid ht
      clear ht htl1 htl3
      clear sq0 sq1 sq2 pq0 pq1 pq2 pq3 pq4 pq5 pq6 pq7 pq8 pq9 pq10
      obtain ⟨w8, hw8⟩ : ∃ W, w7.alloc (.cells #[.slice ta1 tl1 tc1, .slice ta2 tl2 tc2, .slice ta3 tl3 tc3] 26) = W := ⟨_, rfl⟩
      have hkw8 : Kept w7 w8 := by rw [← hw8]; exact kept_alloc _ _
      have HQT := Lib.hid (show CellsN w7.heap.size [.slice ta1 tl1 tc1, .slice ta2 tl2 tc2, .slice ta3 tl3 tc3] w8 from freshN w7 (.slice ta1 tl1 tc1) [.slice ta2 tl2 tc2, .slice ta3 tl3 tc3] 26 w8 (by rw [hw8]; exact Kept.refl _))
      have HQS := Lib.hid (HQS.out.kept hkw8)
      have HQP := Lib.hid (HQP.out.kept hkw8)
      have HQX := Lib.hid (HQX.out.kept hkw8)
      have HS := Lib.hid (HS.out.kept hkw8)
      have HPD := Lib.hid (HPD.out.kept hkw8)
      have HWAS := Lib.hid (HWAS.out.kept hkw8)
      have HT := Lib.hid (HT.out.kept hkw8)
      have K := Lib.hid (K.out.trans hkw8)
      obtain ⟨tq, htq⟩ : ∃ g, w7.heap.size = g := ⟨_, rfl⟩
      rw [htq] at HQT
      have HW := Lib.hid hw8
      clear hw8 hkw8
      go_upto_region 7 with fail
      try rw [HW.out]
      try rw [htq]
      clear HW htq
      have HTL := Lib.hid (put_low HL.out HLP.out (by rw [hsl2]; omega))
      have tqq0 := HQT.out.at_ 0 _ rfl
      have tqq1 := HQT.out.at_ 1 _ rfl
      have tqq2 := HQT.out.at_ 2 _ rfl
      have pq0 := HQP.out.at_ 0 _ rfl
      have pq1 := HQP.out.at_ 1 _ rfl
      have pq2 := HQP.out.at_ 2 _ rfl
      have pq3 := HQP.out.at_ 3 _ rfl
      have pq4 := HQP.out.at_ 4 _ rfl
      have pq5 := HQP.out.at_ 5 _ rfl
      have pq6 := HQP.out.at_ 6 _ rfl
      have pq7 := HQP.out.at_ 7 _ rfl
      have pq8 := HQP.out.at_ 8 _ rfl
      have pq9 := HQP.out.at_ 9 _ rfl
      have pq10 := HQP.out.at_ 10 _ rfl
      go_wp2_with fail
      refine (findPR (show PodsR _ _ _ from by obtain ⟨_, _, _, e, g⟩ := HT.out; cases e; exact g.pods) p.name HTL.out.pods (put_find HASC.out p)).mono ?_
      rintro e w9 ⟨yv, rfl, hy, kk⟩
      have HQS := Lib.hid (HQS.out.kept kk)
      have HQP := Lib.hid (HQP.out.kept kk)
      have HQX := Lib.hid (HQX.out.kept kk)
      have HQT := Lib.hid (HQT.out.kept kk)
      have HS := Lib.hid (HS.out.kept kk)
      have HPD := Lib.hid (HPD.out.kept kk)
      have HWAS := Lib.hid (HWAS.out.kept kk)
      have HT := Lib.hid (HT.out.kept kk)
      have K := Lib.hid (K.out.trans kk)
      clear kk
      replace hy : PodR w9 yv p := hy
      have hy0 := hy
      obtain ⟨_, _, _, _, rfl, haty⟩ := hy0
      have g1 := haty.need
      have g2 := haty.labels
      have g3 := haty.sel
      have g4 := haty.tols
      obtain ⟨ya1, yc1, rfl, -, -, -⟩ := g1
      obtain ⟨ya2, yc2, rfl, -, -, -⟩ := g2
      obtain ⟨ya3, yc3, rfl, -, -, -⟩ := g3
      obtain ⟨ya4, yc4, rfl, -, -, -⟩ := g4
      obtain ⟨yl1, hyl1⟩ : ∃ q, (p).need.length = q := ⟨_, rfl⟩
      rw [hyl1] at hy
      try rw [hyl1]
      clear hyl1
      obtain ⟨yl2, hyl2⟩ : ∃ q, (p).labels.length = q := ⟨_, rfl⟩
      rw [hyl2] at hy
      try rw [hyl2]
      clear hyl2
      obtain ⟨yl3, hyl3⟩ : ∃ q, (p).sel.length = q := ⟨_, rfl⟩
      rw [hyl3] at hy
      try rw [hyl3]
      clear hyl3
      obtain ⟨yl4, hyl4⟩ : ∃ q, (p).tols.length = q := ⟨_, rfl⟩
      rw [hyl4] at hy
      try rw [hyl4]
      clear hyl4
      clear haty
      try unfold PodV
      unfold PodV at hy
      have HY := Lib.hid hy
      clear hy
      clear tqq0 tqq1 tqq2 pq0 pq1 pq2 pq3 pq4 pq5 pq6 pq7 pq8 pq9 pq10
      obtain ⟨w10, hw10⟩ : ∃ W, w9.alloc (.cells #[.string p.name, .string p.owner, .int .i64 p.prio, .slice ya1 yl1 yc1, .slice ya2 yl2 yc2, .slice ya3 yl3 yc3, .slice ya4 yl4 yc4, .string p.key, .int .i64 p.most, .string p.node, .bool p.hold] 49) = W := ⟨_, rfl⟩
      have hkw10 : Kept w9 w10 := by rw [← hw10]; exact kept_alloc _ _
      have HQY := Lib.hid (show CellsN w9.heap.size [.string p.name, .string p.owner, .int .i64 p.prio, .slice ya1 yl1 yc1, .slice ya2 yl2 yc2, .slice ya3 yl3 yc3, .slice ya4 yl4 yc4, .string p.key, .int .i64 p.most, .string p.node, .bool p.hold] w10 from freshN w9 (.string p.name) [.string p.owner, .int .i64 p.prio, .slice ya1 yl1 yc1, .slice ya2 yl2 yc2, .slice ya3 yl3 yc3, .slice ya4 yl4 yc4, .string p.key, .int .i64 p.most, .string p.node, .bool p.hold] 49 w10 (by rw [hw10]; exact Kept.refl _))
      have HQS := Lib.hid (HQS.out.kept hkw10)
      have HQP := Lib.hid (HQP.out.kept hkw10)
      have HQX := Lib.hid (HQX.out.kept hkw10)
      have HQT := Lib.hid (HQT.out.kept hkw10)
      have HS := Lib.hid (HS.out.kept hkw10)
      have HPD := Lib.hid (HPD.out.kept hkw10)
      have HWAS := Lib.hid (HWAS.out.kept hkw10)
      have HT := Lib.hid (HT.out.kept hkw10)
      have HY := Lib.hid (HY.out.kept hkw10)
      have K := Lib.hid (K.out.trans hkw10)
      obtain ⟨yq, hyq⟩ : ∃ g, w9.heap.size = g := ⟨_, rfl⟩
      rw [hyq] at HQY
      have HW := Lib.hid hw10
      clear hw10 hkw10
      go_upto_region 8 with fail
      try rw [HW.out]
      try rw [hyq]
      clear HW hyq
      obtain ⟨hb, hhb⟩ : ∃ e, o.isSome = e := ⟨_, rfl⟩
      obtain ⟨nn, hnn⟩ : ∃ q : Nat, q = (if hb = true then sl2 else sl2 + 1) := ⟨_, rfl⟩
      have HDN := Lib.hid (show (dropSt s p.name).pods.length + 1 = nn by
        have h2 := drop_len' s p.name
        rw [HO.out, hhb, hsl2] at h2
        rw [hnn]
        cases hb <;> simp at h2 ⊢ <;> omega)
      try rw [hhb]
      have sq0 := HQS.out.at_ 0 _ rfl
      have sq1 := HQS.out.at_ 1 _ rfl
      have sq2 := HQS.out.at_ 2 _ rfl
      have pq0 := HQP.out.at_ 0 _ rfl
      have pq1 := HQP.out.at_ 1 _ rfl
      have pq2 := HQP.out.at_ 2 _ rfl
      have pq3 := HQP.out.at_ 3 _ rfl
      have pq4 := HQP.out.at_ 4 _ rfl
      have pq5 := HQP.out.at_ 5 _ rfl
      have pq6 := HQP.out.at_ 6 _ rfl
      have pq7 := HQP.out.at_ 7 _ rfl
      have pq8 := HQP.out.at_ 8 _ rfl
      have pq9 := HQP.out.at_ 9 _ rfl
      have pq10 := HQP.out.at_ 10 _ rfl
      have tqq0 := HQT.out.at_ 0 _ rfl
      have tqq1 := HQT.out.at_ 1 _ rfl
      have tqq2 := HQT.out.at_ 2 _ rfl
      have hnn2 : nn ≤ 131 := by rw [hnn]; split <;> omega
      have HTN := Lib.hid (show tl2 = nn by rw [← htl2, put_len, HDN.out])
      cases hb with
      | false =>
        go_wp2_with fail
        refine (dropStR HT.out p.name HTL.out).mono ?_
        rintro e w11 ⟨dv, rfl, hd, kk⟩
        have HQS := Lib.hid (HQS.out.kept kk)
        have HQP := Lib.hid (HQP.out.kept kk)
        have HQX := Lib.hid (HQX.out.kept kk)
        have HQT := Lib.hid (HQT.out.kept kk)
        have HQY := Lib.hid (HQY.out.kept kk)
        have HS := Lib.hid (HS.out.kept kk)
        have HPD := Lib.hid (HPD.out.kept kk)
        have HWAS := Lib.hid (HWAS.out.kept kk)
        have HT := Lib.hid (HT.out.kept kk)
        have HY := Lib.hid (HY.out.kept kk)
        have K := Lib.hid (K.out.trans kk)
        clear kk
        rw [put_drop HASC.out] at hd
        have hd0 := hd
        obtain ⟨_, _, _, rfl, ⟨da1, dc1, rfl, -, -, -⟩, ⟨da2, dc2, rfl, -, -, -⟩, ⟨da3, dc3, rfl, -, -, -⟩⟩ := hd0
        skip
        obtain ⟨dl1, hdl1⟩ : ∃ q, (dropSt s p.name).nodes.length = q := ⟨_, rfl⟩
        rw [hdl1] at hd
        try rw [hdl1]
        obtain ⟨dl2, hdl2⟩ : ∃ q, (dropSt s p.name).pods.length = q := ⟨_, rfl⟩
        rw [hdl2] at hd
        try rw [hdl2]
        obtain ⟨dl3, hdl3⟩ : ∃ q, (dropSt s p.name).buds.length = q := ⟨_, rfl⟩
        rw [hdl3] at hd
        try rw [hdl3]
        unfold CluV at hd
        have HD := Lib.hid hd
        clear hd hdl1 hdl3
        clear sq0 sq1 sq2 pq0 pq1 pq2 pq3 pq4 pq5 pq6 pq7 pq8 pq9 pq10 tqq0 tqq1 tqq2
        obtain ⟨w12, hw12⟩ : ∃ W, w11.alloc (.cells #[.slice da1 dl1 dc1, .slice da2 dl2 dc2, .slice da3 dl3 dc3] 26) = W := ⟨_, rfl⟩
        have hkw12 : Kept w11 w12 := by rw [← hw12]; exact kept_alloc _ _
        have HQD := Lib.hid (show CellsN w11.heap.size [.slice da1 dl1 dc1, .slice da2 dl2 dc2, .slice da3 dl3 dc3] w12 from freshN w11 (.slice da1 dl1 dc1) [.slice da2 dl2 dc2, .slice da3 dl3 dc3] 26 w12 (by rw [hw12]; exact Kept.refl _))
        have HQS := Lib.hid (HQS.out.kept hkw12)
        have HQP := Lib.hid (HQP.out.kept hkw12)
        have HQX := Lib.hid (HQX.out.kept hkw12)
        have HQT := Lib.hid (HQT.out.kept hkw12)
        have HQY := Lib.hid (HQY.out.kept hkw12)
        have HS := Lib.hid (HS.out.kept hkw12)
        have HPD := Lib.hid (HPD.out.kept hkw12)
        have HWAS := Lib.hid (HWAS.out.kept hkw12)
        have HT := Lib.hid (HT.out.kept hkw12)
        have HY := Lib.hid (HY.out.kept hkw12)
        have HD := Lib.hid (HD.out.kept hkw12)
        have K := Lib.hid (K.out.trans hkw12)
        obtain ⟨dq, hdq⟩ : ∃ g, w11.heap.size = g := ⟨_, rfl⟩
        rw [hdq] at HQD
        have HW := Lib.hid hw12
        clear hw12 hkw12
        go_upto_region 12 with fail
        try rw [HW.out]
        try rw [hdq]
        clear HW hdq
        have HDL := Lib.hid (drop_low HL.out p.name)
        have dqq0 := HQD.out.at_ 0 _ rfl
        have dqq1 := HQD.out.at_ 1 _ rfl
        have dqq2 := HQD.out.at_ 2 _ rfl
        have pq0 := HQP.out.at_ 0 _ rfl
        have pq1 := HQP.out.at_ 1 _ rfl
        have pq2 := HQP.out.at_ 2 _ rfl
        have pq3 := HQP.out.at_ 3 _ rfl
        have pq4 := HQP.out.at_ 4 _ rfl
        have pq5 := HQP.out.at_ 5 _ rfl
        have pq6 := HQP.out.at_ 6 _ rfl
        have pq7 := HQP.out.at_ 7 _ rfl
        have pq8 := HQP.out.at_ 8 _ rfl
        have pq9 := HQP.out.at_ 9 _ rfl
        have pq10 := HQP.out.at_ 10 _ rfl
        go_wp2_with fail
        refine (findPR (show PodsR _ _ _ from by obtain ⟨_, _, _, e, g⟩ := HD.out; cases e; exact g.pods) p.name HDL.out.pods (drop_find HASC.out p.name)).mono ?_
        rintro e w13 ⟨zv, rfl, hz, kk⟩
        have HQS := Lib.hid (HQS.out.kept kk)
        have HQP := Lib.hid (HQP.out.kept kk)
        have HQX := Lib.hid (HQX.out.kept kk)
        have HQT := Lib.hid (HQT.out.kept kk)
        have HQY := Lib.hid (HQY.out.kept kk)
        have HQD := Lib.hid (HQD.out.kept kk)
        have HS := Lib.hid (HS.out.kept kk)
        have HPD := Lib.hid (HPD.out.kept kk)
        have HWAS := Lib.hid (HWAS.out.kept kk)
        have HT := Lib.hid (HT.out.kept kk)
        have HY := Lib.hid (HY.out.kept kk)
        have HD := Lib.hid (HD.out.kept kk)
        have K := Lib.hid (K.out.trans kk)
        clear kk
        obtain ⟨zp, hzp⟩ : ∃ q, (none : Option Pd).getD Pd.zero = q := ⟨_, rfl⟩
        rw [hzp] at hz
        clear hzp
        have hz0 := hz
        obtain ⟨_, _, _, _, rfl, hatz⟩ := hz0
        have g1 := hatz.need
        have g2 := hatz.labels
        have g3 := hatz.sel
        have g4 := hatz.tols
        obtain ⟨za1, zc1, rfl, -, -, -⟩ := g1
        obtain ⟨za2, zc2, rfl, -, -, -⟩ := g2
        obtain ⟨za3, zc3, rfl, -, -, -⟩ := g3
        obtain ⟨za4, zc4, rfl, -, -, -⟩ := g4
        obtain ⟨zl1, hzl1⟩ : ∃ q, (zp).need.length = q := ⟨_, rfl⟩
        rw [hzl1] at hz
        try rw [hzl1]
        clear hzl1
        obtain ⟨zl2, hzl2⟩ : ∃ q, (zp).labels.length = q := ⟨_, rfl⟩
        rw [hzl2] at hz
        try rw [hzl2]
        clear hzl2
        obtain ⟨zl3, hzl3⟩ : ∃ q, (zp).sel.length = q := ⟨_, rfl⟩
        rw [hzl3] at hz
        try rw [hzl3]
        clear hzl3
        obtain ⟨zl4, hzl4⟩ : ∃ q, (zp).tols.length = q := ⟨_, rfl⟩
        rw [hzl4] at hz
        try rw [hzl4]
        clear hzl4
        clear hatz
        try unfold PodV
        unfold PodV at hz
        clear hz
        clear dqq0 dqq1 dqq2 pq0 pq1 pq2 pq3 pq4 pq5 pq6 pq7 pq8 pq9 pq10
        obtain ⟨w14, hw14⟩ : ∃ W, w13.alloc (.cells #[.string zp.name, .string zp.owner, .int .i64 zp.prio, .slice za1 zl1 zc1, .slice za2 zl2 zc2, .slice za3 zl3 zc3, .slice za4 zl4 zc4, .string zp.key, .int .i64 zp.most, .string zp.node, .bool zp.hold] 49) = W := ⟨_, rfl⟩
        have hkw14 : Kept w13 w14 := by rw [← hw14]; exact kept_alloc _ _
        have HQZ := Lib.hid (show CellsN w13.heap.size [.string zp.name, .string zp.owner, .int .i64 zp.prio, .slice za1 zl1 zc1, .slice za2 zl2 zc2, .slice za3 zl3 zc3, .slice za4 zl4 zc4, .string zp.key, .int .i64 zp.most, .string zp.node, .bool zp.hold] w14 from freshN w13 (.string zp.name) [.string zp.owner, .int .i64 zp.prio, .slice za1 zl1 zc1, .slice za2 zl2 zc2, .slice za3 zl3 zc3, .slice za4 zl4 zc4, .string zp.key, .int .i64 zp.most, .string zp.node, .bool zp.hold] 49 w14 (by rw [hw14]; exact Kept.refl _))
        have HQS := Lib.hid (HQS.out.kept hkw14)
        have HQP := Lib.hid (HQP.out.kept hkw14)
        have HQX := Lib.hid (HQX.out.kept hkw14)
        have HQT := Lib.hid (HQT.out.kept hkw14)
        have HQY := Lib.hid (HQY.out.kept hkw14)
        have HQD := Lib.hid (HQD.out.kept hkw14)
        have HS := Lib.hid (HS.out.kept hkw14)
        have HPD := Lib.hid (HPD.out.kept hkw14)
        have HWAS := Lib.hid (HWAS.out.kept hkw14)
        have HT := Lib.hid (HT.out.kept hkw14)
        have HY := Lib.hid (HY.out.kept hkw14)
        have HD := Lib.hid (HD.out.kept hkw14)
        have K := Lib.hid (K.out.trans hkw14)
        obtain ⟨zq, hzq⟩ : ∃ g, w13.heap.size = g := ⟨_, rfl⟩
        rw [hzq] at HQZ
        have HW := Lib.hid hw14
        clear hw14 hkw14
        go_upto_region 13 with fail
        try rw [HW.out]
        try rw [hzq]
        clear HW hzq
        have dqq0 := HQD.out.at_ 0 _ rfl
        have dqq1 := HQD.out.at_ 1 _ rfl
        have dqq2 := HQD.out.at_ 2 _ rfl
        have pq0 := HQP.out.at_ 0 _ rfl
        have pq1 := HQP.out.at_ 1 _ rfl
        have pq2 := HQP.out.at_ 2 _ rfl
        have pq3 := HQP.out.at_ 3 _ rfl
        have pq4 := HQP.out.at_ 4 _ rfl
        have pq5 := HQP.out.at_ 5 _ rfl
        have pq6 := HQP.out.at_ 6 _ rfl
        have pq7 := HQP.out.at_ 7 _ rfl
        have pq8 := HQP.out.at_ 8 _ rfl
        have pq9 := HQP.out.at_ 9 _ rfl
        have pq10 := HQP.out.at_ 10 _ rfl
        have yqq0 := HQY.out.at_ 0 _ rfl
        have yqq1 := HQY.out.at_ 1 _ rfl
        have yqq2 := HQY.out.at_ 2 _ rfl
        have yqq3 := HQY.out.at_ 3 _ rfl
        have yqq4 := HQY.out.at_ 4 _ rfl
        have yqq5 := HQY.out.at_ 5 _ rfl
        have yqq6 := HQY.out.at_ 6 _ rfl
        have yqq7 := HQY.out.at_ 7 _ rfl
        have yqq8 := HQY.out.at_ 8 _ rfl
        have yqq9 := HQY.out.at_ 9 _ rfl
        have yqq10 := HQY.out.at_ 10 _ rfl
        have tqq0 := HQT.out.at_ 0 _ rfl
        have tqq1 := HQT.out.at_ 1 _ rfl
        have tqq2 := HQT.out.at_ 2 _ rfl
        have HDE := Lib.hid (show dl2 + 1 = nn by rw [← hdl2]; exact HDN.out)
        have hns : nn = sl2 + 1 := hnn
        have e1 : ((tl2 : Int) != (sl2 : Int) + 1) = false := by rw [HTN.out, hns]; simp
        have e2 : ((dl2 : Int) != (sl2 : Int)) = false := by have h := HDE.out; rw [show (dl2 : Int) = (sl2 : Int) by omega]; simp
        have e3 : (0 : Int) < (nn : Int) := by have := HDE.out; omega
        go_wp2_with fail
        refine (samePodR HY.out HPD.out (samePd_self p)).mono ?_
        rintro e w15 ⟨rfl, kk⟩
        have HQS := Lib.hid (HQS.out.kept kk)
        have HQP := Lib.hid (HQP.out.kept kk)
        have HQX := Lib.hid (HQX.out.kept kk)
        have HQT := Lib.hid (HQT.out.kept kk)
        have HQY := Lib.hid (HQY.out.kept kk)
        have HQD := Lib.hid (HQD.out.kept kk)
        have HQZ := Lib.hid (HQZ.out.kept kk)
        have HS := Lib.hid (HS.out.kept kk)
        have HPD := Lib.hid (HPD.out.kept kk)
        have HWAS := Lib.hid (HWAS.out.kept kk)
        have HT := Lib.hid (HT.out.kept kk)
        have HY := Lib.hid (HY.out.kept kk)
        have HD := Lib.hid (HD.out.kept kk)
        have K := Lib.hid (K.out.trans kk)
        clear kk
        clear dqq0 dqq1 dqq2 pq0 pq1 pq2 pq3 pq4 pq5 pq6 pq7 pq8 pq9 pq10 yqq0 yqq1 yqq2 yqq3 yqq4 yqq5 yqq6 yqq7 yqq8 yqq9 yqq10 tqq0 tqq1 tqq2
        have dqq0 := HQD.out.at_ 0 _ rfl
        have dqq1 := HQD.out.at_ 1 _ rfl
        have dqq2 := HQD.out.at_ 2 _ rfl
        have pq0 := HQP.out.at_ 0 _ rfl
        have pq1 := HQP.out.at_ 1 _ rfl
        have pq2 := HQP.out.at_ 2 _ rfl
        have pq3 := HQP.out.at_ 3 _ rfl
        have pq4 := HQP.out.at_ 4 _ rfl
        have pq5 := HQP.out.at_ 5 _ rfl
        have pq6 := HQP.out.at_ 6 _ rfl
        have pq7 := HQP.out.at_ 7 _ rfl
        have pq8 := HQP.out.at_ 8 _ rfl
        have pq9 := HQP.out.at_ 9 _ rfl
        have pq10 := HQP.out.at_ 10 _ rfl
        have yqq0 := HQY.out.at_ 0 _ rfl
        have yqq1 := HQY.out.at_ 1 _ rfl
        have yqq2 := HQY.out.at_ 2 _ rfl
        have yqq3 := HQY.out.at_ 3 _ rfl
        have yqq4 := HQY.out.at_ 4 _ rfl
        have yqq5 := HQY.out.at_ 5 _ rfl
        have yqq6 := HQY.out.at_ 6 _ rfl
        have yqq7 := HQY.out.at_ 7 _ rfl
        have yqq8 := HQY.out.at_ 8 _ rfl
        have yqq9 := HQY.out.at_ 9 _ rfl
        have yqq10 := HQY.out.at_ 10 _ rfl
        have tqq0 := HQT.out.at_ 0 _ rfl
        have tqq1 := HQT.out.at_ 1 _ rfl
        have tqq2 := HQT.out.at_ 2 _ rfl
        go_wp2
        go_loopw [14] (fun i wr => ∃ k : Nat, 1 ≤ k ∧ k ≤ nn ∧ i = .int .i64 k ∧ Kept w15 wr) (fun i _ => nn - (intOf i).toNat)
        case atStart => exact ⟨1, Nat.le_refl _, by have := HDE.out; omega, rfl, Kept.refl _⟩
        case round =>
          clear dqq0 dqq1 dqq2 pq0 pq1 pq2 pq3 pq4 pq5 pq6 pq7 pq8 pq9 pq10 yqq0 yqq1 yqq2 yqq3 yqq4 yqq5 yqq6 yqq7 yqq8 yqq9 yqq10 tqq0 tqq1 tqq2
          obtain ⟨k, hk1, hk, rfl, hK⟩ := hrel
          obtain ⟨j, rfl⟩ : ∃ j, k = j + 1 := ⟨k - 1, by omega⟩
          have HQS := Lib.hid (HQS.out.kept hK)
          have HQP := Lib.hid (HQP.out.kept hK)
          have HQX := Lib.hid (HQX.out.kept hK)
          have HQT := Lib.hid (HQT.out.kept hK)
          have HQY := Lib.hid (HQY.out.kept hK)
          have HQD := Lib.hid (HQD.out.kept hK)
          have HQZ := Lib.hid (HQZ.out.kept hK)
          have HS := Lib.hid (HS.out.kept hK)
          have HPD := Lib.hid (HPD.out.kept hK)
          have HWAS := Lib.hid (HWAS.out.kept hK)
          have HT := Lib.hid (HT.out.kept hK)
          have HY := Lib.hid (HY.out.kept hK)
          have HD := Lib.hid (HD.out.kept hK)
          have K := Lib.hid (K.out.trans hK)
          have HK := Lib.hid hK
          clear hK
          have tqq0 := HQT.out.at_ 0 _ rfl
          have tqq1 := HQT.out.at_ 1 _ rfl
          have tqq2 := HQT.out.at_ 2 _ rfl
          by_cases hlt : j + 1 < nn
          · have HTP := Lib.hid (pods_ofR (show PodsR _ _ _ from by obtain ⟨_, _, _, e, g⟩ := HT.out; cases e; exact g.pods))
            have hjt : j + 1 < tl2 := by rw [HTN.out]; exact hlt
            obtain ⟨b9, off, rfl⟩ := HTP.out.form.resolve_left (by omega)
            obtain ⟨nk, x1, y1, z1, x2, y2, z2, x3, y3, z3, x4, y4, z4, hn, hd, hb, p0, p1, p2, p3, p4, p5, p6, p7, p8, p9, p10, hat⟩ := HTP.out.at_ hjt
            obtain ⟨nj, r1, s1, t1, r2, s2, t2, r3, s3, t3, r4, s4, t4, hn9, hd9, hb9, q0, q1, q2, q3, q4, q5, q6, q7, q8, q9, q10, hat9⟩ := HTP.out.at_ (show j < tl2 by omega)
            have HF := Lib.hid (show ∀ W, Kept wr W → W.cell? ⟨tq, 1, none⟩ = some (.slice (some ⟨b9, off, none⟩) tl2 tc2) ∧ W.cell? ⟨b9, off + (j + 1) * 11, none⟩ = some (.string nk.name) ∧ W.cell? ⟨b9, off + j * 11, none⟩ = some (.string nj.name) from fun W kk => ⟨cell_later kk (HQT.out.at_ 1 _ rfl), cell_later kk p0, cell_later kk q0⟩)
            have n3' : (Op.bytesLess nk.name.toList nj.name.toList || nk.name.toList == nj.name.toList) = false := asc_at (put_asc HASC.out p) hn9 hn
            have hkI : ((j : Int) + 1).toNat = j + 1 := by omega
            have hkm : (j : Int) + 1 - 1 = (j : Int) := by omega
            have hk0 : ¬ (j : Int) + 1 < 0 := by omega
            have hk6 : (0 : Int) ≤ (j : Int) + 1 := by omega
            have hk7 : (0 : Int) ≤ (j : Int) := by omega
            have hkw : IntKind.i64.wrap (j : Int) = (j : Int) := IntWalk.i64_in _ (by omega)
            have hk3 : (j : Int) + 1 < (tl2 : Int) := by omega
            have hk4 : (j : Int) < (tl2 : Int) := by omega
            have hk5 : (j : Int) + 1 < (nn : Int) := by omega
            have hcast : ((j + 1 : Nat) : Int) = (j : Int) + 1 := by push_cast; rfl
            clear hat hat9 hn hn9 hd hd9 p0 q0 p1 q1 p2 q2 p3 q3 p4 q4 p5 q5 p6 q6 p7 q7 p8 q8 p9 q9 p10 q10
            go_upto_region 18 with fail
            refine wp_region_held_drew (S := fun W => W.cell? ⟨tq, 1, none⟩ = some (.slice (some ⟨b9, off, none⟩) tl2 tc2) ∧ W.cell? ⟨b9, off + (j + 1) * 11, none⟩ = some (.string nk.name) ∧ W.cell? ⟨b9, off + j * 11, none⟩ = some (.string nj.name)) (by kernel_rfl) (HF.out _ (Kept.drew _)) (fun hHeld => ?_)
            refine wpAnyH_take (i := 0) (v := ?_) (by rw [List.getElem?_toArray]; exact rfl) (by kernel_rfl) (by kernel_rfl) (by kernel_rfl) (by exact fun _ _ _ h => h) (Or.inl ⟨by rfl, (by intro W hSw; obtain ⟨o0, o1, o2⟩ := hSw; go_simp <;> with_reducible rfl)⟩) (by assumption) ?_
            try simp only [Act.put, List.setIfInBounds_toArray, List.set_cons_zero, List.set_cons_succ]
            refine wpAnyH_take (i := 1) (v := ?_) (by rw [List.getElem?_toArray]; exact rfl) (by kernel_rfl) (by kernel_rfl) (by kernel_rfl) (by exact fun _ _ _ h => h) (Or.inl ⟨by rfl, (by intro W hSw; obtain ⟨o0, o1, o2⟩ := hSw; go_simp <;> with_reducible rfl)⟩) (by assumption) ?_
            try simp only [Act.put, List.setIfInBounds_toArray, List.set_cons_zero, List.set_cons_succ]
            refine wpAnyH_take (i := 2) (v := ?_) (by rw [List.getElem?_toArray]; exact rfl) (by kernel_rfl) (by kernel_rfl) (by kernel_rfl) (by exact fun _ _ _ h => h) (Or.inl ⟨by rfl, (by intro W hSw; obtain ⟨o0, o1, o2⟩ := hSw; go_simp <;> with_reducible rfl)⟩) (by assumption) ?_
            try simp only [Act.put, List.setIfInBounds_toArray, List.set_cons_zero, List.set_cons_succ]
            refine wpAnyH_take (i := 3) (v := ?_) (by rw [List.getElem?_toArray]; exact rfl) (by kernel_rfl) (by kernel_rfl) (by kernel_rfl) (by exact fun _ _ _ h => h) (Or.inl ⟨by rfl, (by intro W hSw; obtain ⟨o0, o1, o2⟩ := hSw; go_simp <;> with_reducible rfl)⟩) (by assumption) ?_
            try simp only [Act.put, List.setIfInBounds_toArray, List.set_cons_zero, List.set_cons_succ]
            refine wpAnyH_take (i := 4) (v := ?_) (by rw [List.getElem?_toArray]; exact rfl) (by kernel_rfl) (by kernel_rfl) (by kernel_rfl) (by exact fun _ _ _ h => h) (Or.inl ⟨by rfl, (by intro W hSw; obtain ⟨o0, o1, o2⟩ := hSw; go_simp <;> with_reducible rfl)⟩) (by assumption) ?_
            try simp only [Act.put, List.setIfInBounds_toArray, List.set_cons_zero, List.set_cons_succ]
            refine wpAnyH_take (i := 5) (v := ?_) (by rw [List.getElem?_toArray]; exact rfl) (by kernel_rfl) (by kernel_rfl) (by kernel_rfl) (by exact fun _ _ _ h => h) (Or.inl ⟨by rfl, (by intro W hSw; obtain ⟨o0, o1, o2⟩ := hSw; go_simp <;> with_reducible rfl)⟩) (by assumption) ?_
            try simp only [Act.put, List.setIfInBounds_toArray, List.set_cons_zero, List.set_cons_succ]
            refine wpAnyH_take (i := 6) (v := ?_) (by rw [List.getElem?_toArray]; exact rfl) (by kernel_rfl) (by kernel_rfl) (by kernel_rfl) (by exact fun _ _ _ h => h) (Or.inl ⟨by rfl, (by intro W hSw; obtain ⟨o0, o1, o2⟩ := hSw; go_simp <;> with_reducible rfl)⟩) (by assumption) ?_
            try simp only [Act.put, List.setIfInBounds_toArray, List.set_cons_zero, List.set_cons_succ]
            refine wpAnyH_take (i := 7) (v := ?_) (by rw [List.getElem?_toArray]; exact rfl) (by kernel_rfl) (by kernel_rfl) (by kernel_rfl) (by exact fun _ _ _ h => h) (Or.inl ⟨by rfl, (by intro W hSw; obtain ⟨o0, o1, o2⟩ := hSw; go_simp <;> with_reducible rfl)⟩) (by assumption) ?_
            try simp only [Act.put, List.setIfInBounds_toArray, List.set_cons_zero, List.set_cons_succ]
            refine wpAnyH_take (i := 8) (v := ?_) (by rw [List.getElem?_toArray]; exact rfl) (by kernel_rfl) (by kernel_rfl) (by kernel_rfl) (by exact fun _ _ _ h => h) (Or.inl ⟨by rfl, (by intro W hSw; obtain ⟨o0, o1, o2⟩ := hSw; go_simp <;> with_reducible rfl)⟩) (by assumption) ?_
            try simp only [Act.put, List.setIfInBounds_toArray, List.set_cons_zero, List.set_cons_succ]
            refine wpAnyH_take (i := 9) (v := ?_) (by rw [List.getElem?_toArray]; exact rfl) (by kernel_rfl) (by kernel_rfl) (by kernel_rfl) (by exact fun _ _ _ h => h) (Or.inl ⟨by rfl, (by intro W hSw; obtain ⟨o0, o1, o2⟩ := hSw; go_simp <;> with_reducible rfl)⟩) (by assumption) ?_
            try simp only [Act.put, List.setIfInBounds_toArray, List.set_cons_zero, List.set_cons_succ]
            refine wpAnyH_take (i := 10) (v := ?_) (by rw [List.getElem?_toArray]; exact rfl) (by kernel_rfl) (by kernel_rfl) (by kernel_rfl) (by exact fun _ _ _ h => h) (Or.inl ⟨by rfl, (by intro W hSw; obtain ⟨o0, o1, o2⟩ := hSw; go_simp <;> with_reducible rfl)⟩) (by assumption) ?_
            try simp only [Act.put, List.setIfInBounds_toArray, List.set_cons_zero, List.set_cons_succ]
            refine wpAnyH_take (i := 11) (v := ?_) (by rw [List.getElem?_toArray]; exact rfl) (by kernel_rfl) (by kernel_rfl) (by kernel_rfl) (by exact fun _ _ _ h => h) (Or.inl ⟨by rfl, (by intro W hSw; obtain ⟨o0, o1, o2⟩ := hSw; go_simp <;> with_reducible rfl)⟩) (by assumption) ?_
            try simp only [Act.put, List.setIfInBounds_toArray, List.set_cons_zero, List.set_cons_succ]
            refine wpAnyH_take (i := 12) (v := ?_) (by rw [List.getElem?_toArray]; exact rfl) (by kernel_rfl) (by kernel_rfl) (by kernel_rfl) (by exact fun _ _ _ h => h) (Or.inl ⟨by rfl, (by intro W hSw; obtain ⟨o0, o1, o2⟩ := hSw; go_simp <;> with_reducible rfl)⟩) (by assumption) ?_
            try simp only [Act.put, List.setIfInBounds_toArray, List.set_cons_zero, List.set_cons_succ]
            refine wpAnyH_take (i := 13) (v := ?_) (by rw [List.getElem?_toArray]; exact rfl) (by kernel_rfl) (by kernel_rfl) (by kernel_rfl) (by exact fun _ _ _ h => h) (Or.inl ⟨by rfl, (by intro W hSw; obtain ⟨o0, o1, o2⟩ := hSw; go_simp <;> with_reducible rfl)⟩) (by assumption) ?_
            try simp only [Act.put, List.setIfInBounds_toArray, List.set_cons_zero, List.set_cons_succ]
            refine wpAnyH_done (by kernel_rfl) ?_ _
            go_wp2
            go_roundw
            case rel => exact ⟨j + 1 + 1, by omega, by omega, by go_num, HK.out.trans (Kept.drew _)⟩
            case measure => simp [intOf]; omega
          · have hle : ¬ (j : Int) + 1 < (nn : Int) := by omega
            have hle2 : ¬ ((j + 1 : Nat) : Int) < (nn : Int) := by omega
            have hle3 : ¬ (j : Int) + 1 < (tl2 : Int) := by rw [HTN.out]; exact hle
            cases o with
              | some op => cases hhb
              | none =>
                clear tqq0 tqq1 tqq2
                have tqq0 := HQT.out.at_ 0 _ rfl
                have tqq1 := HQT.out.at_ 1 _ rfl
                have tqq2 := HQT.out.at_ 2 _ rfl
                have dqq0 := HQD.out.at_ 0 _ rfl
                have dqq1 := HQD.out.at_ 1 _ rfl
                have dqq2 := HQD.out.at_ 2 _ rfl
                have sq0 := HQS.out.at_ 0 _ rfl
                have sq1 := HQS.out.at_ 1 _ rfl
                have sq2 := HQS.out.at_ 2 _ rfl
                go_wp2_with fail
                refine (sameStR (c := true) HD.out HS.out (by rw [drop_nothing HO.out]; exact sameSt_self s)).mono ?_
                rintro e w16 ⟨rfl, kk⟩
                have K := Lib.hid (K.out.trans kk)
                clear kk
                go_wp2
                go_ret
                exact ⟨rfl, HKZ.out.trans K.out⟩
      | true =>
        go_wp2_with fail
        refine (dropStR HT.out p.name HTL.out).mono ?_
        rintro e w11 ⟨dv, rfl, hd, kk⟩
        have HQS := Lib.hid (HQS.out.kept kk)
        have HQP := Lib.hid (HQP.out.kept kk)
        have HQX := Lib.hid (HQX.out.kept kk)
        have HQT := Lib.hid (HQT.out.kept kk)
        have HQY := Lib.hid (HQY.out.kept kk)
        have HS := Lib.hid (HS.out.kept kk)
        have HPD := Lib.hid (HPD.out.kept kk)
        have HWAS := Lib.hid (HWAS.out.kept kk)
        have HT := Lib.hid (HT.out.kept kk)
        have HY := Lib.hid (HY.out.kept kk)
        have K := Lib.hid (K.out.trans kk)
        clear kk
        rw [put_drop HASC.out] at hd
        have hd0 := hd
        obtain ⟨_, _, _, rfl, ⟨da1, dc1, rfl, -, -, -⟩, ⟨da2, dc2, rfl, -, -, -⟩, ⟨da3, dc3, rfl, -, -, -⟩⟩ := hd0
        skip
        obtain ⟨dl1, hdl1⟩ : ∃ q, (dropSt s p.name).nodes.length = q := ⟨_, rfl⟩
        rw [hdl1] at hd
        try rw [hdl1]
        obtain ⟨dl2, hdl2⟩ : ∃ q, (dropSt s p.name).pods.length = q := ⟨_, rfl⟩
        rw [hdl2] at hd
        try rw [hdl2]
        obtain ⟨dl3, hdl3⟩ : ∃ q, (dropSt s p.name).buds.length = q := ⟨_, rfl⟩
        rw [hdl3] at hd
        try rw [hdl3]
        unfold CluV at hd
        have HD := Lib.hid hd
        clear hd hdl1 hdl3
        clear sq0 sq1 sq2 pq0 pq1 pq2 pq3 pq4 pq5 pq6 pq7 pq8 pq9 pq10 tqq0 tqq1 tqq2
        obtain ⟨w12, hw12⟩ : ∃ W, w11.alloc (.cells #[.slice da1 dl1 dc1, .slice da2 dl2 dc2, .slice da3 dl3 dc3] 26) = W := ⟨_, rfl⟩
        have hkw12 : Kept w11 w12 := by rw [← hw12]; exact kept_alloc _ _
        have HQD := Lib.hid (show CellsN w11.heap.size [.slice da1 dl1 dc1, .slice da2 dl2 dc2, .slice da3 dl3 dc3] w12 from freshN w11 (.slice da1 dl1 dc1) [.slice da2 dl2 dc2, .slice da3 dl3 dc3] 26 w12 (by rw [hw12]; exact Kept.refl _))
        have HQS := Lib.hid (HQS.out.kept hkw12)
        have HQP := Lib.hid (HQP.out.kept hkw12)
        have HQX := Lib.hid (HQX.out.kept hkw12)
        have HQT := Lib.hid (HQT.out.kept hkw12)
        have HQY := Lib.hid (HQY.out.kept hkw12)
        have HS := Lib.hid (HS.out.kept hkw12)
        have HPD := Lib.hid (HPD.out.kept hkw12)
        have HWAS := Lib.hid (HWAS.out.kept hkw12)
        have HT := Lib.hid (HT.out.kept hkw12)
        have HY := Lib.hid (HY.out.kept hkw12)
        have HD := Lib.hid (HD.out.kept hkw12)
        have K := Lib.hid (K.out.trans hkw12)
        obtain ⟨dq, hdq⟩ : ∃ g, w11.heap.size = g := ⟨_, rfl⟩
        rw [hdq] at HQD
        have HW := Lib.hid hw12
        clear hw12 hkw12
        go_upto_region 12 with fail
        try rw [HW.out]
        try rw [hdq]
        clear HW hdq
        have HDL := Lib.hid (drop_low HL.out p.name)
        have dqq0 := HQD.out.at_ 0 _ rfl
        have dqq1 := HQD.out.at_ 1 _ rfl
        have dqq2 := HQD.out.at_ 2 _ rfl
        have pq0 := HQP.out.at_ 0 _ rfl
        have pq1 := HQP.out.at_ 1 _ rfl
        have pq2 := HQP.out.at_ 2 _ rfl
        have pq3 := HQP.out.at_ 3 _ rfl
        have pq4 := HQP.out.at_ 4 _ rfl
        have pq5 := HQP.out.at_ 5 _ rfl
        have pq6 := HQP.out.at_ 6 _ rfl
        have pq7 := HQP.out.at_ 7 _ rfl
        have pq8 := HQP.out.at_ 8 _ rfl
        have pq9 := HQP.out.at_ 9 _ rfl
        have pq10 := HQP.out.at_ 10 _ rfl
        go_wp2_with fail
        refine (findPR (show PodsR _ _ _ from by obtain ⟨_, _, _, e, g⟩ := HD.out; cases e; exact g.pods) p.name HDL.out.pods (drop_find HASC.out p.name)).mono ?_
        rintro e w13 ⟨zv, rfl, hz, kk⟩
        have HQS := Lib.hid (HQS.out.kept kk)
        have HQP := Lib.hid (HQP.out.kept kk)
        have HQX := Lib.hid (HQX.out.kept kk)
        have HQT := Lib.hid (HQT.out.kept kk)
        have HQY := Lib.hid (HQY.out.kept kk)
        have HQD := Lib.hid (HQD.out.kept kk)
        have HS := Lib.hid (HS.out.kept kk)
        have HPD := Lib.hid (HPD.out.kept kk)
        have HWAS := Lib.hid (HWAS.out.kept kk)
        have HT := Lib.hid (HT.out.kept kk)
        have HY := Lib.hid (HY.out.kept kk)
        have HD := Lib.hid (HD.out.kept kk)
        have K := Lib.hid (K.out.trans kk)
        clear kk
        obtain ⟨zp, hzp⟩ : ∃ q, (none : Option Pd).getD Pd.zero = q := ⟨_, rfl⟩
        rw [hzp] at hz
        clear hzp
        have hz0 := hz
        obtain ⟨_, _, _, _, rfl, hatz⟩ := hz0
        have g1 := hatz.need
        have g2 := hatz.labels
        have g3 := hatz.sel
        have g4 := hatz.tols
        obtain ⟨za1, zc1, rfl, -, -, -⟩ := g1
        obtain ⟨za2, zc2, rfl, -, -, -⟩ := g2
        obtain ⟨za3, zc3, rfl, -, -, -⟩ := g3
        obtain ⟨za4, zc4, rfl, -, -, -⟩ := g4
        obtain ⟨zl1, hzl1⟩ : ∃ q, (zp).need.length = q := ⟨_, rfl⟩
        rw [hzl1] at hz
        try rw [hzl1]
        clear hzl1
        obtain ⟨zl2, hzl2⟩ : ∃ q, (zp).labels.length = q := ⟨_, rfl⟩
        rw [hzl2] at hz
        try rw [hzl2]
        clear hzl2
        obtain ⟨zl3, hzl3⟩ : ∃ q, (zp).sel.length = q := ⟨_, rfl⟩
        rw [hzl3] at hz
        try rw [hzl3]
        clear hzl3
        obtain ⟨zl4, hzl4⟩ : ∃ q, (zp).tols.length = q := ⟨_, rfl⟩
        rw [hzl4] at hz
        try rw [hzl4]
        clear hzl4
        clear hatz
        try unfold PodV
        unfold PodV at hz
        clear hz
        clear dqq0 dqq1 dqq2 pq0 pq1 pq2 pq3 pq4 pq5 pq6 pq7 pq8 pq9 pq10
        obtain ⟨w14, hw14⟩ : ∃ W, w13.alloc (.cells #[.string zp.name, .string zp.owner, .int .i64 zp.prio, .slice za1 zl1 zc1, .slice za2 zl2 zc2, .slice za3 zl3 zc3, .slice za4 zl4 zc4, .string zp.key, .int .i64 zp.most, .string zp.node, .bool zp.hold] 49) = W := ⟨_, rfl⟩
        have hkw14 : Kept w13 w14 := by rw [← hw14]; exact kept_alloc _ _
        have HQZ := Lib.hid (show CellsN w13.heap.size [.string zp.name, .string zp.owner, .int .i64 zp.prio, .slice za1 zl1 zc1, .slice za2 zl2 zc2, .slice za3 zl3 zc3, .slice za4 zl4 zc4, .string zp.key, .int .i64 zp.most, .string zp.node, .bool zp.hold] w14 from freshN w13 (.string zp.name) [.string zp.owner, .int .i64 zp.prio, .slice za1 zl1 zc1, .slice za2 zl2 zc2, .slice za3 zl3 zc3, .slice za4 zl4 zc4, .string zp.key, .int .i64 zp.most, .string zp.node, .bool zp.hold] 49 w14 (by rw [hw14]; exact Kept.refl _))
        have HQS := Lib.hid (HQS.out.kept hkw14)
        have HQP := Lib.hid (HQP.out.kept hkw14)
        have HQX := Lib.hid (HQX.out.kept hkw14)
        have HQT := Lib.hid (HQT.out.kept hkw14)
        have HQY := Lib.hid (HQY.out.kept hkw14)
        have HQD := Lib.hid (HQD.out.kept hkw14)
        have HS := Lib.hid (HS.out.kept hkw14)
        have HPD := Lib.hid (HPD.out.kept hkw14)
        have HWAS := Lib.hid (HWAS.out.kept hkw14)
        have HT := Lib.hid (HT.out.kept hkw14)
        have HY := Lib.hid (HY.out.kept hkw14)
        have HD := Lib.hid (HD.out.kept hkw14)
        have K := Lib.hid (K.out.trans hkw14)
        obtain ⟨zq, hzq⟩ : ∃ g, w13.heap.size = g := ⟨_, rfl⟩
        rw [hzq] at HQZ
        have HW := Lib.hid hw14
        clear hw14 hkw14
        go_upto_region 13 with fail
        try rw [HW.out]
        try rw [hzq]
        clear HW hzq
        have dqq0 := HQD.out.at_ 0 _ rfl
        have dqq1 := HQD.out.at_ 1 _ rfl
        have dqq2 := HQD.out.at_ 2 _ rfl
        have pq0 := HQP.out.at_ 0 _ rfl
        have pq1 := HQP.out.at_ 1 _ rfl
        have pq2 := HQP.out.at_ 2 _ rfl
        have pq3 := HQP.out.at_ 3 _ rfl
        have pq4 := HQP.out.at_ 4 _ rfl
        have pq5 := HQP.out.at_ 5 _ rfl
        have pq6 := HQP.out.at_ 6 _ rfl
        have pq7 := HQP.out.at_ 7 _ rfl
        have pq8 := HQP.out.at_ 8 _ rfl
        have pq9 := HQP.out.at_ 9 _ rfl
        have pq10 := HQP.out.at_ 10 _ rfl
        have yqq0 := HQY.out.at_ 0 _ rfl
        have yqq1 := HQY.out.at_ 1 _ rfl
        have yqq2 := HQY.out.at_ 2 _ rfl
        have yqq3 := HQY.out.at_ 3 _ rfl
        have yqq4 := HQY.out.at_ 4 _ rfl
        have yqq5 := HQY.out.at_ 5 _ rfl
        have yqq6 := HQY.out.at_ 6 _ rfl
        have yqq7 := HQY.out.at_ 7 _ rfl
        have yqq8 := HQY.out.at_ 8 _ rfl
        have yqq9 := HQY.out.at_ 9 _ rfl
        have yqq10 := HQY.out.at_ 10 _ rfl
        have tqq0 := HQT.out.at_ 0 _ rfl
        have tqq1 := HQT.out.at_ 1 _ rfl
        have tqq2 := HQT.out.at_ 2 _ rfl
        have HDE := Lib.hid (show dl2 + 1 = nn by rw [← hdl2]; exact HDN.out)
        have hns : nn = sl2 := hnn
        have e1 : ((tl2 : Int) != (sl2 : Int)) = false := by rw [HTN.out, hns]; simp
        have e2 : ((dl2 : Int) != (sl2 : Int) - 1) = false := by have h := HDE.out; rw [show (dl2 : Int) = (sl2 : Int) - 1 by omega]; simp
        have e3 : (0 : Int) < (nn : Int) := by have := HDE.out; omega
        go_wp2_with fail
        refine (samePodR HY.out HPD.out (samePd_self p)).mono ?_
        rintro e w15 ⟨rfl, kk⟩
        have HQS := Lib.hid (HQS.out.kept kk)
        have HQP := Lib.hid (HQP.out.kept kk)
        have HQX := Lib.hid (HQX.out.kept kk)
        have HQT := Lib.hid (HQT.out.kept kk)
        have HQY := Lib.hid (HQY.out.kept kk)
        have HQD := Lib.hid (HQD.out.kept kk)
        have HQZ := Lib.hid (HQZ.out.kept kk)
        have HS := Lib.hid (HS.out.kept kk)
        have HPD := Lib.hid (HPD.out.kept kk)
        have HWAS := Lib.hid (HWAS.out.kept kk)
        have HT := Lib.hid (HT.out.kept kk)
        have HY := Lib.hid (HY.out.kept kk)
        have HD := Lib.hid (HD.out.kept kk)
        have K := Lib.hid (K.out.trans kk)
        clear kk
        clear dqq0 dqq1 dqq2 pq0 pq1 pq2 pq3 pq4 pq5 pq6 pq7 pq8 pq9 pq10 yqq0 yqq1 yqq2 yqq3 yqq4 yqq5 yqq6 yqq7 yqq8 yqq9 yqq10 tqq0 tqq1 tqq2
        have dqq0 := HQD.out.at_ 0 _ rfl
        have dqq1 := HQD.out.at_ 1 _ rfl
        have dqq2 := HQD.out.at_ 2 _ rfl
        have pq0 := HQP.out.at_ 0 _ rfl
        have pq1 := HQP.out.at_ 1 _ rfl
        have pq2 := HQP.out.at_ 2 _ rfl
        have pq3 := HQP.out.at_ 3 _ rfl
        have pq4 := HQP.out.at_ 4 _ rfl
        have pq5 := HQP.out.at_ 5 _ rfl
        have pq6 := HQP.out.at_ 6 _ rfl
        have pq7 := HQP.out.at_ 7 _ rfl
        have pq8 := HQP.out.at_ 8 _ rfl
        have pq9 := HQP.out.at_ 9 _ rfl
        have pq10 := HQP.out.at_ 10 _ rfl
        have yqq0 := HQY.out.at_ 0 _ rfl
        have yqq1 := HQY.out.at_ 1 _ rfl
        have yqq2 := HQY.out.at_ 2 _ rfl
        have yqq3 := HQY.out.at_ 3 _ rfl
        have yqq4 := HQY.out.at_ 4 _ rfl
        have yqq5 := HQY.out.at_ 5 _ rfl
        have yqq6 := HQY.out.at_ 6 _ rfl
        have yqq7 := HQY.out.at_ 7 _ rfl
        have yqq8 := HQY.out.at_ 8 _ rfl
        have yqq9 := HQY.out.at_ 9 _ rfl
        have yqq10 := HQY.out.at_ 10 _ rfl
        have tqq0 := HQT.out.at_ 0 _ rfl
        have tqq1 := HQT.out.at_ 1 _ rfl
        have tqq2 := HQT.out.at_ 2 _ rfl
        go_wp2
        go_loopw [14] (fun i wr => ∃ k : Nat, 1 ≤ k ∧ k ≤ nn ∧ i = .int .i64 k ∧ Kept w15 wr) (fun i _ => nn - (intOf i).toNat)
        case atStart => exact ⟨1, Nat.le_refl _, by have := HDE.out; omega, rfl, Kept.refl _⟩
        case round =>
          clear dqq0 dqq1 dqq2 pq0 pq1 pq2 pq3 pq4 pq5 pq6 pq7 pq8 pq9 pq10 yqq0 yqq1 yqq2 yqq3 yqq4 yqq5 yqq6 yqq7 yqq8 yqq9 yqq10 tqq0 tqq1 tqq2
          obtain ⟨k, hk1, hk, rfl, hK⟩ := hrel
          obtain ⟨j, rfl⟩ : ∃ j, k = j + 1 := ⟨k - 1, by omega⟩
          have HQS := Lib.hid (HQS.out.kept hK)
          have HQP := Lib.hid (HQP.out.kept hK)
          have HQX := Lib.hid (HQX.out.kept hK)
          have HQT := Lib.hid (HQT.out.kept hK)
          have HQY := Lib.hid (HQY.out.kept hK)
          have HQD := Lib.hid (HQD.out.kept hK)
          have HQZ := Lib.hid (HQZ.out.kept hK)
          have HS := Lib.hid (HS.out.kept hK)
          have HPD := Lib.hid (HPD.out.kept hK)
          have HWAS := Lib.hid (HWAS.out.kept hK)
          have HT := Lib.hid (HT.out.kept hK)
          have HY := Lib.hid (HY.out.kept hK)
          have HD := Lib.hid (HD.out.kept hK)
          have K := Lib.hid (K.out.trans hK)
          have HK := Lib.hid hK
          clear hK
          have tqq0 := HQT.out.at_ 0 _ rfl
          have tqq1 := HQT.out.at_ 1 _ rfl
          have tqq2 := HQT.out.at_ 2 _ rfl
          by_cases hlt : j + 1 < nn
          · have HTP := Lib.hid (pods_ofR (show PodsR _ _ _ from by obtain ⟨_, _, _, e, g⟩ := HT.out; cases e; exact g.pods))
            have hjt : j + 1 < tl2 := by rw [HTN.out]; exact hlt
            obtain ⟨b9, off, rfl⟩ := HTP.out.form.resolve_left (by omega)
            obtain ⟨nk, x1, y1, z1, x2, y2, z2, x3, y3, z3, x4, y4, z4, hn, hd, hb, p0, p1, p2, p3, p4, p5, p6, p7, p8, p9, p10, hat⟩ := HTP.out.at_ hjt
            obtain ⟨nj, r1, s1, t1, r2, s2, t2, r3, s3, t3, r4, s4, t4, hn9, hd9, hb9, q0, q1, q2, q3, q4, q5, q6, q7, q8, q9, q10, hat9⟩ := HTP.out.at_ (show j < tl2 by omega)
            have HF := Lib.hid (show ∀ W, Kept wr W → W.cell? ⟨tq, 1, none⟩ = some (.slice (some ⟨b9, off, none⟩) tl2 tc2) ∧ W.cell? ⟨b9, off + (j + 1) * 11, none⟩ = some (.string nk.name) ∧ W.cell? ⟨b9, off + j * 11, none⟩ = some (.string nj.name) from fun W kk => ⟨cell_later kk (HQT.out.at_ 1 _ rfl), cell_later kk p0, cell_later kk q0⟩)
            have n3' : (Op.bytesLess nk.name.toList nj.name.toList || nk.name.toList == nj.name.toList) = false := asc_at (put_asc HASC.out p) hn9 hn
            have hkI : ((j : Int) + 1).toNat = j + 1 := by omega
            have hkm : (j : Int) + 1 - 1 = (j : Int) := by omega
            have hk0 : ¬ (j : Int) + 1 < 0 := by omega
            have hk6 : (0 : Int) ≤ (j : Int) + 1 := by omega
            have hk7 : (0 : Int) ≤ (j : Int) := by omega
            have hkw : IntKind.i64.wrap (j : Int) = (j : Int) := IntWalk.i64_in _ (by omega)
            have hk3 : (j : Int) + 1 < (tl2 : Int) := by omega
            have hk4 : (j : Int) < (tl2 : Int) := by omega
            have hk5 : (j : Int) + 1 < (nn : Int) := by omega
            have hcast : ((j + 1 : Nat) : Int) = (j : Int) + 1 := by push_cast; rfl
            clear hat hat9 hn hn9 hd hd9 p0 q0 p1 q1 p2 q2 p3 q3 p4 q4 p5 q5 p6 q6 p7 q7 p8 q8 p9 q9 p10 q10
            go_upto_region 18 with fail
            refine wp_region_held_drew (S := fun W => W.cell? ⟨tq, 1, none⟩ = some (.slice (some ⟨b9, off, none⟩) tl2 tc2) ∧ W.cell? ⟨b9, off + (j + 1) * 11, none⟩ = some (.string nk.name) ∧ W.cell? ⟨b9, off + j * 11, none⟩ = some (.string nj.name)) (by kernel_rfl) (HF.out _ (Kept.drew _)) (fun hHeld => ?_)
            refine wpAnyH_take (i := 0) (v := ?_) (by rw [List.getElem?_toArray]; exact rfl) (by kernel_rfl) (by kernel_rfl) (by kernel_rfl) (by exact fun _ _ _ h => h) (Or.inl ⟨by rfl, (by intro W hSw; obtain ⟨o0, o1, o2⟩ := hSw; go_simp <;> with_reducible rfl)⟩) (by assumption) ?_
            try simp only [Act.put, List.setIfInBounds_toArray, List.set_cons_zero, List.set_cons_succ]
            refine wpAnyH_take (i := 1) (v := ?_) (by rw [List.getElem?_toArray]; exact rfl) (by kernel_rfl) (by kernel_rfl) (by kernel_rfl) (by exact fun _ _ _ h => h) (Or.inl ⟨by rfl, (by intro W hSw; obtain ⟨o0, o1, o2⟩ := hSw; go_simp <;> with_reducible rfl)⟩) (by assumption) ?_
            try simp only [Act.put, List.setIfInBounds_toArray, List.set_cons_zero, List.set_cons_succ]
            refine wpAnyH_take (i := 2) (v := ?_) (by rw [List.getElem?_toArray]; exact rfl) (by kernel_rfl) (by kernel_rfl) (by kernel_rfl) (by exact fun _ _ _ h => h) (Or.inl ⟨by rfl, (by intro W hSw; obtain ⟨o0, o1, o2⟩ := hSw; go_simp <;> with_reducible rfl)⟩) (by assumption) ?_
            try simp only [Act.put, List.setIfInBounds_toArray, List.set_cons_zero, List.set_cons_succ]
            refine wpAnyH_take (i := 3) (v := ?_) (by rw [List.getElem?_toArray]; exact rfl) (by kernel_rfl) (by kernel_rfl) (by kernel_rfl) (by exact fun _ _ _ h => h) (Or.inl ⟨by rfl, (by intro W hSw; obtain ⟨o0, o1, o2⟩ := hSw; go_simp <;> with_reducible rfl)⟩) (by assumption) ?_
            try simp only [Act.put, List.setIfInBounds_toArray, List.set_cons_zero, List.set_cons_succ]
            refine wpAnyH_take (i := 4) (v := ?_) (by rw [List.getElem?_toArray]; exact rfl) (by kernel_rfl) (by kernel_rfl) (by kernel_rfl) (by exact fun _ _ _ h => h) (Or.inl ⟨by rfl, (by intro W hSw; obtain ⟨o0, o1, o2⟩ := hSw; go_simp <;> with_reducible rfl)⟩) (by assumption) ?_
            try simp only [Act.put, List.setIfInBounds_toArray, List.set_cons_zero, List.set_cons_succ]
            refine wpAnyH_take (i := 5) (v := ?_) (by rw [List.getElem?_toArray]; exact rfl) (by kernel_rfl) (by kernel_rfl) (by kernel_rfl) (by exact fun _ _ _ h => h) (Or.inl ⟨by rfl, (by intro W hSw; obtain ⟨o0, o1, o2⟩ := hSw; go_simp <;> with_reducible rfl)⟩) (by assumption) ?_
            try simp only [Act.put, List.setIfInBounds_toArray, List.set_cons_zero, List.set_cons_succ]
            refine wpAnyH_take (i := 6) (v := ?_) (by rw [List.getElem?_toArray]; exact rfl) (by kernel_rfl) (by kernel_rfl) (by kernel_rfl) (by exact fun _ _ _ h => h) (Or.inl ⟨by rfl, (by intro W hSw; obtain ⟨o0, o1, o2⟩ := hSw; go_simp <;> with_reducible rfl)⟩) (by assumption) ?_
            try simp only [Act.put, List.setIfInBounds_toArray, List.set_cons_zero, List.set_cons_succ]
            refine wpAnyH_take (i := 7) (v := ?_) (by rw [List.getElem?_toArray]; exact rfl) (by kernel_rfl) (by kernel_rfl) (by kernel_rfl) (by exact fun _ _ _ h => h) (Or.inl ⟨by rfl, (by intro W hSw; obtain ⟨o0, o1, o2⟩ := hSw; go_simp <;> with_reducible rfl)⟩) (by assumption) ?_
            try simp only [Act.put, List.setIfInBounds_toArray, List.set_cons_zero, List.set_cons_succ]
            refine wpAnyH_take (i := 8) (v := ?_) (by rw [List.getElem?_toArray]; exact rfl) (by kernel_rfl) (by kernel_rfl) (by kernel_rfl) (by exact fun _ _ _ h => h) (Or.inl ⟨by rfl, (by intro W hSw; obtain ⟨o0, o1, o2⟩ := hSw; go_simp <;> with_reducible rfl)⟩) (by assumption) ?_
            try simp only [Act.put, List.setIfInBounds_toArray, List.set_cons_zero, List.set_cons_succ]
            refine wpAnyH_take (i := 9) (v := ?_) (by rw [List.getElem?_toArray]; exact rfl) (by kernel_rfl) (by kernel_rfl) (by kernel_rfl) (by exact fun _ _ _ h => h) (Or.inl ⟨by rfl, (by intro W hSw; obtain ⟨o0, o1, o2⟩ := hSw; go_simp <;> with_reducible rfl)⟩) (by assumption) ?_
            try simp only [Act.put, List.setIfInBounds_toArray, List.set_cons_zero, List.set_cons_succ]
            refine wpAnyH_take (i := 10) (v := ?_) (by rw [List.getElem?_toArray]; exact rfl) (by kernel_rfl) (by kernel_rfl) (by kernel_rfl) (by exact fun _ _ _ h => h) (Or.inl ⟨by rfl, (by intro W hSw; obtain ⟨o0, o1, o2⟩ := hSw; go_simp <;> with_reducible rfl)⟩) (by assumption) ?_
            try simp only [Act.put, List.setIfInBounds_toArray, List.set_cons_zero, List.set_cons_succ]
            refine wpAnyH_take (i := 11) (v := ?_) (by rw [List.getElem?_toArray]; exact rfl) (by kernel_rfl) (by kernel_rfl) (by kernel_rfl) (by exact fun _ _ _ h => h) (Or.inl ⟨by rfl, (by intro W hSw; obtain ⟨o0, o1, o2⟩ := hSw; go_simp <;> with_reducible rfl)⟩) (by assumption) ?_
            try simp only [Act.put, List.setIfInBounds_toArray, List.set_cons_zero, List.set_cons_succ]
            refine wpAnyH_take (i := 12) (v := ?_) (by rw [List.getElem?_toArray]; exact rfl) (by kernel_rfl) (by kernel_rfl) (by kernel_rfl) (by exact fun _ _ _ h => h) (Or.inl ⟨by rfl, (by intro W hSw; obtain ⟨o0, o1, o2⟩ := hSw; go_simp <;> with_reducible rfl)⟩) (by assumption) ?_
            try simp only [Act.put, List.setIfInBounds_toArray, List.set_cons_zero, List.set_cons_succ]
            refine wpAnyH_take (i := 13) (v := ?_) (by rw [List.getElem?_toArray]; exact rfl) (by kernel_rfl) (by kernel_rfl) (by kernel_rfl) (by exact fun _ _ _ h => h) (Or.inl ⟨by rfl, (by intro W hSw; obtain ⟨o0, o1, o2⟩ := hSw; go_simp <;> with_reducible rfl)⟩) (by assumption) ?_
            try simp only [Act.put, List.setIfInBounds_toArray, List.set_cons_zero, List.set_cons_succ]
            refine wpAnyH_done (by kernel_rfl) ?_ _
            go_wp2
            go_roundw
            case rel => exact ⟨j + 1 + 1, by omega, by omega, by go_num, HK.out.trans (Kept.drew _)⟩
            case measure => simp [intOf]; omega
          · have hle : ¬ (j : Int) + 1 < (nn : Int) := by omega
            have hle2 : ¬ ((j + 1 : Nat) : Int) < (nn : Int) := by omega
            have hle3 : ¬ (j : Int) + 1 < (tl2 : Int) := by rw [HTN.out]; exact hle
            cases o with
              | none => cases hhb
              | some op =>
                clear tqq0 tqq1 tqq2
                have tqq0 := HQT.out.at_ 0 _ rfl
                have tqq1 := HQT.out.at_ 1 _ rfl
                have tqq2 := HQT.out.at_ 2 _ rfl
                obtain rfl : op = wp := HWP.out
                go_upto_region 21 with fail
                have HF := Lib.hid (show ∀ W, Kept wr W → W.cell? ⟨dq, 0, none⟩ = some (.slice da1 dl1 dc1) ∧ W.cell? ⟨dq, 1, none⟩ = some (.slice da2 dl2 dc2) ∧ W.cell? ⟨dq, 2, none⟩ = some (.slice da3 dl3 dc3) ∧ W.cell? ⟨xq, 0, none⟩ = some (.string op.name) ∧ W.cell? ⟨xq, 1, none⟩ = some (.string op.owner) ∧ W.cell? ⟨xq, 2, none⟩ = some (.int .i64 op.prio) ∧ W.cell? ⟨xq, 3, none⟩ = some (.slice xa1 xl1 xc1) ∧ W.cell? ⟨xq, 4, none⟩ = some (.slice xa2 xl2 xc2) ∧ W.cell? ⟨xq, 5, none⟩ = some (.slice xa3 xl3 xc3) ∧ W.cell? ⟨xq, 6, none⟩ = some (.slice xa4 xl4 xc4) ∧ W.cell? ⟨xq, 7, none⟩ = some (.string op.key) ∧ W.cell? ⟨xq, 8, none⟩ = some (.int .i64 op.most) ∧ W.cell? ⟨xq, 9, none⟩ = some (.string op.node) ∧ W.cell? ⟨xq, 10, none⟩ = some (.bool op.hold) ∧ W.cell? ⟨w.heap.size, 0, none⟩ = some (.slice sa1 sl1 sc1) ∧ W.cell? ⟨w.heap.size, 1, none⟩ = some (.slice sa2 sl2 sc2) ∧ W.cell? ⟨w.heap.size, 2, none⟩ = some (.slice sa3 sl3 sc3) from fun W kk => ⟨cell_later kk (HQD.out.at_ 0 _ rfl), cell_later kk (HQD.out.at_ 1 _ rfl), cell_later kk (HQD.out.at_ 2 _ rfl), cell_later kk (HQX.out.at_ 0 _ rfl), cell_later kk (HQX.out.at_ 1 _ rfl), cell_later kk (HQX.out.at_ 2 _ rfl), cell_later kk (HQX.out.at_ 3 _ rfl), cell_later kk (HQX.out.at_ 4 _ rfl), cell_later kk (HQX.out.at_ 5 _ rfl), cell_later kk (HQX.out.at_ 6 _ rfl), cell_later kk (HQX.out.at_ 7 _ rfl), cell_later kk (HQX.out.at_ 8 _ rfl), cell_later kk (HQX.out.at_ 9 _ rfl), cell_later kk (HQX.out.at_ 10 _ rfl), cell_later kk (HQS.out.at_ 0 _ rfl), cell_later kk (HQS.out.at_ 1 _ rfl), cell_later kk (HQS.out.at_ 2 _ rfl)⟩)
                refine wp_region_held_drew (S := fun W => W.cell? ⟨dq, 0, none⟩ = some (.slice da1 dl1 dc1) ∧ W.cell? ⟨dq, 1, none⟩ = some (.slice da2 dl2 dc2) ∧ W.cell? ⟨dq, 2, none⟩ = some (.slice da3 dl3 dc3) ∧ W.cell? ⟨xq, 0, none⟩ = some (.string op.name) ∧ W.cell? ⟨xq, 1, none⟩ = some (.string op.owner) ∧ W.cell? ⟨xq, 2, none⟩ = some (.int .i64 op.prio) ∧ W.cell? ⟨xq, 3, none⟩ = some (.slice xa1 xl1 xc1) ∧ W.cell? ⟨xq, 4, none⟩ = some (.slice xa2 xl2 xc2) ∧ W.cell? ⟨xq, 5, none⟩ = some (.slice xa3 xl3 xc3) ∧ W.cell? ⟨xq, 6, none⟩ = some (.slice xa4 xl4 xc4) ∧ W.cell? ⟨xq, 7, none⟩ = some (.string op.key) ∧ W.cell? ⟨xq, 8, none⟩ = some (.int .i64 op.most) ∧ W.cell? ⟨xq, 9, none⟩ = some (.string op.node) ∧ W.cell? ⟨xq, 10, none⟩ = some (.bool op.hold) ∧ W.cell? ⟨w.heap.size, 0, none⟩ = some (.slice sa1 sl1 sc1) ∧ W.cell? ⟨w.heap.size, 1, none⟩ = some (.slice sa2 sl2 sc2) ∧ W.cell? ⟨w.heap.size, 2, none⟩ = some (.slice sa3 sl3 sc3)) (by kernel_rfl) (HF.out _ (Kept.drew _)) (fun hHeld => ?_)
                refine wpAnyH_take (i := 0) (v := ?_) (by rw [List.getElem?_toArray]; exact rfl) (by kernel_rfl) (by kernel_rfl) (by kernel_rfl) (by exact fun _ _ _ h => h) (Or.inl ⟨by rfl, (by intro W hSw; obtain ⟨o0, o1, o2, o3, o4, o5, o6, o7, o8, o9, o10, o11, o12, o13, o14, o15, o16⟩ := hSw; go_simp <;> with_reducible rfl)⟩) (by assumption) ?_
                try simp only [Act.put, List.setIfInBounds_toArray, List.set_cons_zero, List.set_cons_succ]
                refine wpAnyH_take (i := 1) (v := ?_) (by rw [List.getElem?_toArray]; exact rfl) (by kernel_rfl) (by kernel_rfl) (by kernel_rfl) (by exact fun _ _ _ h => h) (Or.inl ⟨by rfl, (by intro W hSw; obtain ⟨o0, o1, o2, o3, o4, o5, o6, o7, o8, o9, o10, o11, o12, o13, o14, o15, o16⟩ := hSw; go_simp <;> with_reducible rfl)⟩) (by assumption) ?_
                try simp only [Act.put, List.setIfInBounds_toArray, List.set_cons_zero, List.set_cons_succ]
                refine wpAnyH_take (i := 3) (v := ?_) (by rw [List.getElem?_toArray]; exact rfl) (by kernel_rfl) (by kernel_rfl) (by kernel_rfl) (by exact fun _ _ _ h => h) (Or.inl ⟨by rfl, (by intro W hSw; obtain ⟨o0, o1, o2, o3, o4, o5, o6, o7, o8, o9, o10, o11, o12, o13, o14, o15, o16⟩ := hSw; go_simp <;> with_reducible rfl)⟩) (by assumption) ?_
                try simp only [Act.put, List.setIfInBounds_toArray, List.set_cons_zero, List.set_cons_succ]
                have J := Lib.hid (Kept.drew wr)
                refine wpAnyH_ready (rs := [2]) (by kernel_rfl) (by simp) (AllReadyH.cons (by rw [List.getElem?_toArray]; exact rfl) (fun K9 hK9 => ?_) AllReadyH.nil)
                go_simp
                have HPU := putStR (HD.out.kept J.out) (HWAS.out.kept J.out) HDL.out (HL.out.pods _ (find_is HO.out).1)
                rw [put_again HASC.out HO.out] at HPU
                refine HPU.mono ?_
                clear HPU
                rintro e w17 ⟨y9, rfl, hy, kk⟩
                have J := Lib.hid (J.out.trans kk)
                have HY9 := Lib.hid hy
                clear hy kk
                refine hK9.out _ _ (HF.out _ J.out) (fun hHeld1 => ?_)
                clear hK9 K9
                try simp only [Act.put, List.setIfInBounds_toArray, List.set_cons_zero, List.set_cons_succ]
                refine wpAnyH_ready (rs := [4]) (by kernel_rfl) (by simp) (AllReadyH.cons (by rw [List.getElem?_toArray]; exact rfl) (fun K9 hK9 => ?_) AllReadyH.nil)
                go_simp
                refine (sameStR HY9.out (HS.out.kept J.out) (sameSt_self s)).mono ?_
                rintro e w18 ⟨rfl, kk⟩
                have J := Lib.hid (J.out.trans kk)
                clear kk
                refine hK9.out _ _ (HF.out _ J.out) (fun hHeld2 => ?_)
                clear hK9 K9
                try simp only [Act.put, List.setIfInBounds_toArray, List.set_cons_zero, List.set_cons_succ]
                refine wpAnyH_take (i := 5) (v := ?_) (by rw [List.getElem?_toArray]; exact rfl) (by kernel_rfl) (by kernel_rfl) (by kernel_rfl) (by exact fun _ _ _ h => h) (Or.inl ⟨by rfl, (by intro W hSw; obtain ⟨o0, o1, o2, o3, o4, o5, o6, o7, o8, o9, o10, o11, o12, o13, o14, o15, o16⟩ := hSw; go_simp <;> with_reducible rfl)⟩) (by assumption) ?_
                try simp only [Act.put, List.setIfInBounds_toArray, List.set_cons_zero, List.set_cons_succ]
                refine wpAnyH_done (by kernel_rfl) ?_ _
                have K := Lib.hid (K.out.trans J.out)
                go_wp2
                go_ret
                exact ⟨rfl, HKZ.out.trans K.out⟩

end Go.Proofs.YtfpgekjhcfoohaaGreat
