/- A pod put in, or instead, one dropped, one moved: the law, walked. -/
import Derived.Test.YtfpgekjhcfoohaaGreatShort
import Derived.Test.YtfpgekjhcfoohaaGreatStLawSame
import Derived.Test.YtfpgekjhcfoohaaGreatStRefPut
import Derived.Test.YtfpgekjhcfoohaaGreatStRefDrop
import Derived.Test.YtfpgekjhcfoohaaGreatStRefMove
import Derived.Test.YtfpgekjhcfoohaaGreatStE
import Derived.Test.YtfpgekjhcfoohaaGreatPodFew
import Derived.Test.YtfpgekjhcfoohaaGreatPodRefChk
import Derived.Test.YtfpgekjhcfoohaaGreatStA
import Derived.Deep.RegionHeld3
set_option linter.unusedVariables false
namespace Go.Proofs.YtfpgekjhcfoohaaGreat
open Go.RowKit
set_option maxRecDepth 100000 in
set_option maxHeartbeats 25600000 in
theorem StateChanges_walk (v : Value) (s : Clu) (u : Value) (p : Pd) (x y : ByteArray) (w : World) (h : CluR w v s) (g : PodR w u p) (hx9 : x.size ≤ maxLen) (hy9 : y.size ≤ maxLen) : Calls Tryz.prog 6 #[v, u, .string x, .string y] w fun e w' => e = .returned (.bool true) ∧ Kept w w' := by
 have hs0 := h
 obtain ⟨_, _, _, rfl, ⟨sa1, sc1, rfl, -, -, -⟩, ⟨sa2, sc2, rfl, -, -, -⟩, ⟨sa3, sc3, rfl, -, -, -⟩⟩ := hs0
 obtain ⟨sl1, hsl1⟩ : ∃ q, (s).nodes.length = q := ⟨_, rfl⟩
 rw [hsl1] at h
 try rw [hsl1]
 clear hsl1
 obtain ⟨sl2, hsl2⟩ : ∃ q, (s).pods.length = q := ⟨_, rfl⟩
 rw [hsl2] at h
 try rw [hsl2]
 clear hsl2
 obtain ⟨sl3, hsl3⟩ : ∃ q, (s).buds.length = q := ⟨_, rfl⟩
 rw [hsl3] at h
 try rw [hsl3]
 clear hsl3
 have g0 := g
 obtain ⟨_, _, _, _, rfl, hatp⟩ := g0
 have g1 := hatp.need
 have g2 := hatp.labels
 have g3 := hatp.sel
 have g4 := hatp.tols
 obtain ⟨pa1, pc1, rfl, -, -, -⟩ := g1
 obtain ⟨pa2, pc2, rfl, -, -, -⟩ := g2
 obtain ⟨pa3, pc3, rfl, -, -, -⟩ := g3
 obtain ⟨pa4, pc4, rfl, -, -, -⟩ := g4
 obtain ⟨pl1, hpl1⟩ : ∃ q, p.need.length = q := ⟨_, rfl⟩
 rw [hpl1] at g
 try rw [hpl1]
 clear hpl1
 obtain ⟨pl2, hpl2⟩ : ∃ q, p.labels.length = q := ⟨_, rfl⟩
 rw [hpl2] at g
 try rw [hpl2]
 clear hpl2
 obtain ⟨pl3, hpl3⟩ : ∃ q, p.sel.length = q := ⟨_, rfl⟩
 rw [hpl3] at g
 try rw [hpl3]
 clear hpl3
 obtain ⟨pl4, hpl4⟩ : ∃ q, p.tols.length = q := ⟨_, rfl⟩
 rw [hpl4] at g
 try rw [hpl4]
 clear hpl4
 clear hatp
 try unfold PodV
 try unfold PodV at g
 obtain ⟨Z, hZ⟩ : ∃ Z, (w.alloc (.cells #[.slice sa1 sl1 sc1, .slice sa2 sl2 sc2, .slice sa3 sl3 sc3] 26)).alloc (.cells #[.string p.name, .string p.owner, .int .i64 p.prio, .slice pa1 pl1 pc1, .slice pa2 pl2 pc2, .slice pa3 pl3 pc3, .slice pa4 pl4 pc4, .string p.key, .int .i64 p.most, .string p.node, .bool p.hold] 49) = Z := ⟨_, rfl⟩
 have hkz : Kept w Z := by rw [← hZ]; exact kept_two _ _ _
 have HQS := lH (show CellsN w.heap.size [.slice sa1 sl1 sc1, .slice sa2 sl2 sc2, .slice sa3 sl3 sc3] Z from freshN w (.slice sa1 sl1 sc1) [.slice sa2 sl2 sc2, .slice sa3 sl3 sc3] 26 Z (by rw [← hZ]; exact kept_alloc _ _))
 have HQP := lH (show CellsN (w.heap.size + 1) [.string p.name, .string p.owner, .int .i64 p.prio, .slice pa1 pl1 pc1, .slice pa2 pl2 pc2, .slice pa3 pl3 pc3, .slice pa4 pl4 pc4, .string p.key, .int .i64 p.most, .string p.node, .bool p.hold] Z by
  have dd := freshN (w.alloc (.cells #[.slice sa1 sl1 sc1, .slice sa2 sl2 sc2, .slice sa3 sl3 sc3] 26)) (.string p.name) [.string p.owner, .int .i64 p.prio, .slice pa1 pl1 pc1, .slice pa2 pl2 pc2, .slice pa3 pl3 pc3, .slice pa4 pl4 pc4, .string p.key, .int .i64 p.most, .string p.node, .bool p.hold] 49 Z (by rw [hZ]; exact Kept.refl _)
  rw [World.size_alloc] at dd
  exact dd)
 have HS := lH (h.kept hkz)
 have HPD := lH (g.kept hkz)
 have HKZ := lH hkz
 clear h g hkz
 try unfold CluV at HS
 try unfold PodV at HPD
 have K := lH (Kept.refl Z)
 go_enter Tryz.func6, Tryz.ntmps6
 go_wp2_with fail
 try rw [hZ]
 clear hZ
 refine (knownSt_any Z).mono ?_
 rintro e w1 ⟨rfl, kk⟩
 have HQS := lH (HQS.out.kept kk)
 have HQP := lH (HQP.out.kept kk)
 have HS := lH (HS.out.kept kk)
 have HPD := lH (HPD.out.kept kk)
 have K := lH (K.out.trans kk)
 clear kk
 obtain ⟨e1, he1⟩ : ∃ e, goodSt s = e := ⟨_, rfl⟩
 obtain ⟨e2, he2⟩ : ∃ e, fewPd p = e := ⟨_, rfl⟩
 obtain ⟨x3, he3⟩ : ∃ e, chkPod p = e := ⟨_, rfl⟩
 have HE1 := lH he1
 have HE2 := lH he2
 have sq0 := HQS.out.at_ 0 _ rfl
 have sq1 := HQS.out.at_ 1 _ rfl
 have sq2 := HQS.out.at_ 2 _ rfl
 have pq0 := HQP.out.at_ 0 _ rfl
 have pq1 := HQP.out.at_ 1 _ rfl
 have pq2 := HQP.out.at_ 2 _ rfl
 have pq3 := HQP.out.at_ 3 _ rfl
 have pq4 := HQP.out.at_ 4 _ rfl
 have pq5 := HQP.out.at_ 5 _ rfl
 have pq6 := HQP.out.at_ 6 _ rfl
 have pq7 := HQP.out.at_ 7 _ rfl
 have pq8 := HQP.out.at_ 8 _ rfl
 have pq9 := HQP.out.at_ 9 _ rfl
 have pq10 := HQP.out.at_ 10 _ rfl
 go_wp2_with fail
 refine (goodStR HS.out he1).mono ?_
 rintro e w2 ⟨rfl, kk⟩
 have HQS := lH (HQS.out.kept kk)
 have HQP := lH (HQP.out.kept kk)
 have HS := lH (HS.out.kept kk)
 have HPD := lH (HPD.out.kept kk)
 have K := lH (K.out.trans kk)
 clear kk he1
 clear sq0 sq1 sq2 pq0 pq1 pq2 pq3 pq4 pq5 pq6 pq7 pq8 pq9 pq10
 have sq0 := HQS.out.at_ 0 _ rfl
 have sq1 := HQS.out.at_ 1 _ rfl
 have sq2 := HQS.out.at_ 2 _ rfl
 have pq0 := HQP.out.at_ 0 _ rfl
 have pq1 := HQP.out.at_ 1 _ rfl
 have pq2 := HQP.out.at_ 2 _ rfl
 have pq3 := HQP.out.at_ 3 _ rfl
 have pq4 := HQP.out.at_ 4 _ rfl
 have pq5 := HQP.out.at_ 5 _ rfl
 have pq6 := HQP.out.at_ 6 _ rfl
 have pq7 := HQP.out.at_ 7 _ rfl
 have pq8 := HQP.out.at_ 8 _ rfl
 have pq9 := HQP.out.at_ 9 _ rfl
 have pq10 := HQP.out.at_ 10 _ rfl
 cases e1 with
 | false =>
  go_wp2
  go_ret
  exact ⟨rfl, HKZ.out.trans K.out⟩
 | true =>
  go_wp2_with fail
  refine (fewPdR HPD.out he2).mono ?_
  rintro e w3 ⟨rfl, kk⟩
  have HQS := lH (HQS.out.kept kk)
  have HQP := lH (HQP.out.kept kk)
  have HS := lH (HS.out.kept kk)
  have HPD := lH (HPD.out.kept kk)
  have K := lH (K.out.trans kk)
  clear kk he2
  clear sq0 sq1 sq2 pq0 pq1 pq2 pq3 pq4 pq5 pq6 pq7 pq8 pq9 pq10
  have sq0 := HQS.out.at_ 0 _ rfl
  have sq1 := HQS.out.at_ 1 _ rfl
  have sq2 := HQS.out.at_ 2 _ rfl
  have pq0 := HQP.out.at_ 0 _ rfl
  have pq1 := HQP.out.at_ 1 _ rfl
  have pq2 := HQP.out.at_ 2 _ rfl
  have pq3 := HQP.out.at_ 3 _ rfl
  have pq4 := HQP.out.at_ 4 _ rfl
  have pq5 := HQP.out.at_ 5 _ rfl
  have pq6 := HQP.out.at_ 6 _ rfl
  have pq7 := HQP.out.at_ 7 _ rfl
  have pq8 := HQP.out.at_ 8 _ rfl
  have pq9 := HQP.out.at_ 9 _ rfl
  have pq10 := HQP.out.at_ 10 _ rfl
  cases e2 with
  | false =>
   go_wp2
   go_ret
   exact ⟨rfl, HKZ.out.trans K.out⟩
  | true =>
   have HLP := lH (few_lowP HE2.out)
   go_wp2_with fail
   refine (ofPdR HPD.out HLP.out).mono ?_
   rintro e w4 ⟨zv, rfl, hz, kk⟩
   have HQS := lH (HQS.out.kept kk)
   have HQP := lH (HQP.out.kept kk)
   have HS := lH (HS.out.kept kk)
   have HPD := lH (HPD.out.kept kk)
   have K := lH (K.out.trans kk)
   have HZ4 := lH hz
   clear kk hz
   clear sq0 sq1 sq2 pq0 pq1 pq2 pq3 pq4 pq5 pq6 pq7 pq8 pq9 pq10
   have sq0 := HQS.out.at_ 0 _ rfl
   have sq1 := HQS.out.at_ 1 _ rfl
   have sq2 := HQS.out.at_ 2 _ rfl
   have pq0 := HQP.out.at_ 0 _ rfl
   have pq1 := HQP.out.at_ 1 _ rfl
   have pq2 := HQP.out.at_ 2 _ rfl
   have pq3 := HQP.out.at_ 3 _ rfl
   have pq4 := HQP.out.at_ 4 _ rfl
   have pq5 := HQP.out.at_ 5 _ rfl
   have pq6 := HQP.out.at_ 6 _ rfl
   have pq7 := HQP.out.at_ 7 _ rfl
   have pq8 := HQP.out.at_ 8 _ rfl
   have pq9 := HQP.out.at_ 9 _ rfl
   have pq10 := HQP.out.at_ 10 _ rfl
   go_wp2_with fail
   refine (rcheckPdR HZ4.out he3).mono ?_
   rintro e w5 ⟨rfl, kk⟩
   have HQS := lH (HQS.out.kept kk)
   have HQP := lH (HQP.out.kept kk)
   have HS := lH (HS.out.kept kk)
   have HPD := lH (HPD.out.kept kk)
   have K := lH (K.out.trans kk)
   clear kk HZ4
   clear sq0 sq1 sq2 pq0 pq1 pq2 pq3 pq4 pq5 pq6 pq7 pq8 pq9 pq10
   have sq0 := HQS.out.at_ 0 _ rfl
   have sq1 := HQS.out.at_ 1 _ rfl
   have sq2 := HQS.out.at_ 2 _ rfl
   have pq0 := HQP.out.at_ 0 _ rfl
   have pq1 := HQP.out.at_ 1 _ rfl
   have pq2 := HQP.out.at_ 2 _ rfl
   have pq3 := HQP.out.at_ 3 _ rfl
   have pq4 := HQP.out.at_ 4 _ rfl
   have pq5 := HQP.out.at_ 5 _ rfl
   have pq6 := HQP.out.at_ 6 _ rfl
   have pq7 := HQP.out.at_ 7 _ rfl
   have pq8 := HQP.out.at_ 8 _ rfl
   have pq9 := HQP.out.at_ 9 _ rfl
   have pq10 := HQP.out.at_ 10 _ rfl
   by_cases hx : ¬ x3 = 0
   · have hxn : (x3 != 0) = true := by simpa using hx
     clear hx
     go_wp2
     go_ret
     exact ⟨rfl, HKZ.out.trans K.out⟩
   obtain rfl : x3 = 0 := Decidable.of_not_not hx
   clear hx
   by_cases hx : ¬ x.size ≤ 50
   · have hxn : (50 : Int) < (x.size : Int) := by omega
     go_wp2
     go_ret
     exact ⟨rfl, HKZ.out.trans K.out⟩
   have hxn : ¬ (50 : Int) < (x.size : Int) := by omega
   by_cases hy : ¬ y.size ≤ 50
   · have hyn : (50 : Int) < (y.size : Int) := by omega
     go_wp2
     go_ret
     exact ⟨rfl, HKZ.out.trans K.out⟩
   have hyn : ¬ (50 : Int) < (y.size : Int) := by omega
   have HYS := lH (show y.size ≤ maxLen by unfold maxLen; omega)
   obtain ⟨LS, LS1, LS2, LS3⟩ := few_lowS (good_few HE1.out)
   have HL := lH LS
   have HASC := lH (good_asc HE1.out)
   have HLEN := lH (And.intro LS1 (And.intro LS2 LS3))
   clear LS HE1 HE2 LS1 LS2 LS3
   go_upto_region 5 with fail
   go_wp2_with fail
   refine (ofStR HS.out HL.out (by have := HLEN.out.1; omega) (by have := HLEN.out.2.1; omega) (by have := HLEN.out.2.2; omega)).mono ?_
   rintro e w6 ⟨xv, rfl, hv, kk⟩
   have HQS := lH (HQS.out.kept kk)
   have HQP := lH (HQP.out.kept kk)
   have HS := lH (HS.out.kept kk)
   have HPD := lH (HPD.out.kept kk)
   have K := lH (K.out.trans kk)
   clear kk
   have hs0 := hv
   obtain ⟨_, _, _, rfl, ⟨xa1, xc1, rfl, -, -, -⟩, ⟨xa2, xc2, rfl, -, -, -⟩, ⟨xa3, xc3, rfl, -, -, -⟩⟩ := hs0
   obtain ⟨xl1, hxl1⟩ : ∃ q, (s).nodes.length = q := ⟨_, rfl⟩
   rw [hxl1] at hv
   try rw [hxl1]
   clear hxl1
   obtain ⟨xl2, hxl2⟩ : ∃ q, (s).pods.length = q := ⟨_, rfl⟩
   rw [hxl2] at hv
   try rw [hxl2]
   clear hxl2
   obtain ⟨xl3, hxl3⟩ : ∃ q, (s).buds.length = q := ⟨_, rfl⟩
   rw [hxl3] at hv
   try rw [hxl3]
   clear hxl3
   try unfold CluV at hv
   have HX := lH hv
   clear hv
   clear sq0 sq1 sq2 pq0 pq1 pq2 pq3 pq4 pq5 pq6 pq7 pq8 pq9 pq10
   obtain ⟨W7, hW7⟩ : ∃ W, w6.alloc (.cells #[.slice xa1 xl1 xc1, .slice xa2 xl2 xc2, .slice xa3 xl3 xc3] 35) = W := ⟨_, rfl⟩
   have hk7 : Kept w6 W7 := by rw [← hW7]; exact kept_alloc _ _
   have HQX := lH (show CellsN w6.heap.size [.slice xa1 xl1 xc1, .slice xa2 xl2 xc2, .slice xa3 xl3 xc3] W7 from freshN w6 (.slice xa1 xl1 xc1) [.slice xa2 xl2 xc2, .slice xa3 xl3 xc3] 35 W7 (by rw [hW7]; exact Kept.refl _))
   obtain ⟨xq, hxq⟩ : ∃ q, w6.heap.size = q := ⟨_, rfl⟩
   rw [hxq] at HQX
   have HW7 := lH hW7
   clear hW7
   go_upto_region 6 with fail
   try rw [HW7.out]
   try rw [hxq]
   clear HW7
   have HQS := lH (HQS.out.kept hk7)
   have HQP := lH (HQP.out.kept hk7)
   have HS := lH (HS.out.kept hk7)
   have HPD := lH (HPD.out.kept hk7)
   have HX := lH (HX.out.kept hk7)
   have K := lH (K.out.trans hk7)
   clear hk7 hxq
   have HF := lH (show ∀ W, Kept W7 W → W.cell? ⟨w.heap.size, 0, none⟩ = some (.slice sa1 sl1 sc1) ∧ W.cell? ⟨w.heap.size, 1, none⟩ = some (.slice sa2 sl2 sc2) ∧ W.cell? ⟨w.heap.size, 2, none⟩ = some (.slice sa3 sl3 sc3) ∧ W.cell? ⟨w.heap.size + 1, 0, none⟩ = some (.string p.name) ∧ W.cell? ⟨w.heap.size + 1, 1, none⟩ = some (.string p.owner) ∧ W.cell? ⟨w.heap.size + 1, 2, none⟩ = some (.int .i64 p.prio) ∧ W.cell? ⟨w.heap.size + 1, 3, none⟩ = some (.slice pa1 pl1 pc1) ∧ W.cell? ⟨w.heap.size + 1, 4, none⟩ = some (.slice pa2 pl2 pc2) ∧ W.cell? ⟨w.heap.size + 1, 5, none⟩ = some (.slice pa3 pl3 pc3) ∧ W.cell? ⟨w.heap.size + 1, 6, none⟩ = some (.slice pa4 pl4 pc4) ∧ W.cell? ⟨w.heap.size + 1, 7, none⟩ = some (.string p.key) ∧ W.cell? ⟨w.heap.size + 1, 8, none⟩ = some (.int .i64 p.most) ∧ W.cell? ⟨w.heap.size + 1, 9, none⟩ = some (.string p.node) ∧ W.cell? ⟨w.heap.size + 1, 10, none⟩ = some (.bool p.hold) ∧ W.cell? ⟨xq, 0, none⟩ = some (.slice xa1 xl1 xc1) ∧ W.cell? ⟨xq, 1, none⟩ = some (.slice xa2 xl2 xc2) ∧ W.cell? ⟨xq, 2, none⟩ = some (.slice xa3 xl3 xc3) from fun W kk => ⟨cell_later kk (HQS.out.at_ 0 _ rfl), cell_later kk (HQS.out.at_ 1 _ rfl), cell_later kk (HQS.out.at_ 2 _ rfl), cell_later kk (HQP.out.at_ 0 _ rfl), cell_later kk (HQP.out.at_ 1 _ rfl), cell_later kk (HQP.out.at_ 2 _ rfl), cell_later kk (HQP.out.at_ 3 _ rfl), cell_later kk (HQP.out.at_ 4 _ rfl), cell_later kk (HQP.out.at_ 5 _ rfl), cell_later kk (HQP.out.at_ 6 _ rfl), cell_later kk (HQP.out.at_ 7 _ rfl), cell_later kk (HQP.out.at_ 8 _ rfl), cell_later kk (HQP.out.at_ 9 _ rfl), cell_later kk (HQP.out.at_ 10 _ rfl), cell_later kk (HQX.out.at_ 0 _ rfl), cell_later kk (HQX.out.at_ 1 _ rfl), cell_later kk (HQX.out.at_ 2 _ rfl)⟩)
   have J := lH (Kept.drew W7)
   refine wp_region_held_drew (S := fun W => W.cell? ⟨w.heap.size, 0, none⟩ = some (.slice sa1 sl1 sc1) ∧ W.cell? ⟨w.heap.size, 1, none⟩ = some (.slice sa2 sl2 sc2) ∧ W.cell? ⟨w.heap.size, 2, none⟩ = some (.slice sa3 sl3 sc3) ∧ W.cell? ⟨w.heap.size + 1, 0, none⟩ = some (.string p.name) ∧ W.cell? ⟨w.heap.size + 1, 1, none⟩ = some (.string p.owner) ∧ W.cell? ⟨w.heap.size + 1, 2, none⟩ = some (.int .i64 p.prio) ∧ W.cell? ⟨w.heap.size + 1, 3, none⟩ = some (.slice pa1 pl1 pc1) ∧ W.cell? ⟨w.heap.size + 1, 4, none⟩ = some (.slice pa2 pl2 pc2) ∧ W.cell? ⟨w.heap.size + 1, 5, none⟩ = some (.slice pa3 pl3 pc3) ∧ W.cell? ⟨w.heap.size + 1, 6, none⟩ = some (.slice pa4 pl4 pc4) ∧ W.cell? ⟨w.heap.size + 1, 7, none⟩ = some (.string p.key) ∧ W.cell? ⟨w.heap.size + 1, 8, none⟩ = some (.int .i64 p.most) ∧ W.cell? ⟨w.heap.size + 1, 9, none⟩ = some (.string p.node) ∧ W.cell? ⟨w.heap.size + 1, 10, none⟩ = some (.bool p.hold) ∧ W.cell? ⟨xq, 0, none⟩ = some (.slice xa1 xl1 xc1) ∧ W.cell? ⟨xq, 1, none⟩ = some (.slice xa2 xl2 xc2) ∧ W.cell? ⟨xq, 2, none⟩ = some (.slice xa3 xl3 xc3)) (by kernel_rfl) (HF.out _ J.out) (fun hHeld => ?_)
   refine tkH 0 (v := ?_) (y := Or.inl ⟨by rfl, (by rintro W ⟨o0, o1, o2, o3, o4, o5, o6, o7, o8, o9, o10, o11, o12, o13, o14, o15, o16⟩; go_simp <;> with_reducible rfl)⟩) (h := ?_)
   try simp only [nP]
   refine tkH 1 (v := ?_) (y := Or.inl ⟨by rfl, (by rintro W ⟨o0, o1, o2, o3, o4, o5, o6, o7, o8, o9, o10, o11, o12, o13, o14, o15, o16⟩; go_simp <;> with_reducible rfl)⟩) (h := ?_)
   try simp only [nP]
   refine tkH 3 (v := ?_) (y := Or.inl ⟨by rfl, (by rintro W ⟨o0, o1, o2, o3, o4, o5, o6, o7, o8, o9, o10, o11, o12, o13, o14, o15, o16⟩; go_simp <;> with_reducible rfl)⟩) (h := ?_)
   try simp only [nP]
   refine tkH 4 (v := ?_) (y := Or.inl ⟨by rfl, (by rintro W ⟨o0, o1, o2, o3, o4, o5, o6, o7, o8, o9, o10, o11, o12, o13, o14, o15, o16⟩; go_simp <;> with_reducible rfl)⟩) (h := ?_)
   try simp only [nP]
   refine rdH (rs := [2]) (h := coH (fun K9 hK9 => ?_) AllReadyH.nil)
   go_simp
   refine (putStR (HS.out.kept J.out) (HPD.out.kept J.out) HL.out HLP.out).mono ?_
   rintro e q1 ⟨y1, rfl, hy1, kk⟩
   have J := lH (J.out.trans kk)
   have hs0 := hy1
   obtain ⟨_, _, _, rfl, ⟨ba1, bc1, rfl, -, -, -⟩, ⟨ba2, bc2, rfl, -, -, -⟩, ⟨ba3, bc3, rfl, -, -, -⟩⟩ := hs0
   obtain ⟨bl1, hbl1⟩ : ∃ q, (putSt s p).nodes.length = q := ⟨_, rfl⟩
   rw [hbl1] at hy1
   try rw [hbl1]
   clear hbl1
   obtain ⟨bl2, hbl2⟩ : ∃ q, (putSt s p).pods.length = q := ⟨_, rfl⟩
   rw [hbl2] at hy1
   try rw [hbl2]
   clear hbl2
   obtain ⟨bl3, hbl3⟩ : ∃ q, (putSt s p).buds.length = q := ⟨_, rfl⟩
   rw [hbl3] at hy1
   try rw [hbl3]
   clear hbl3
   have HY1 := lH hy1
   clear hy1
   clear kk
   refine hK9.out _ _ (HF.out _ J.out) (fun hHeld1 => ?_)
   clear hK9 K9
   try simp only [nP]
   refine rdH (rs := [5]) (h := coH (fun K9 hK9 => ?_) AllReadyH.nil)
   go_simp
   refine (ofPdR (HPD.out.kept J.out) HLP.out).mono ?_
   rintro e q2 ⟨y2, rfl, hy2, kk⟩
   have J := lH (J.out.trans kk)
   have HY1 := lH (HY1.out.kept kk)
   have HY2 := lH hy2
   clear hy2
   clear kk
   refine hK9.out _ _ (HF.out _ J.out) (fun hHeld2 => ?_)
   clear hK9 K9
   try simp only [nP]
   have HPU := lH (rputStR (HX.out.kept J.out) HY2.out (by have := HLEN.out.2.1; omega))
   rw [rputSt_asc HASC.out] at HPU
   have PLOW := lH (put_low HL.out HLP.out (by have := HLEN.out.2.1; omega))
   refine rdH (rs := [6]) (h := coH (fun K9 hK9 => ?_) AllReadyH.nil)
   go_simp
   refine (HPU.out).mono ?_
   rintro e q3 ⟨y3, rfl, hy3, kk⟩
   have J := lH (J.out.trans kk)
   have HY1 := lH (HY1.out.kept kk)
   have hs0 := hy3
   obtain ⟨_, _, _, rfl, ⟨da1, dc1, rfl, -, -, -⟩, ⟨da2, dc2, rfl, -, -, -⟩, ⟨da3, dc3, rfl, -, -, -⟩⟩ := hs0
   obtain ⟨dl1, hdl1⟩ : ∃ q, (putSt s p).nodes.length = q := ⟨_, rfl⟩
   rw [hdl1] at hy3
   try rw [hdl1]
   clear hdl1
   obtain ⟨dl2, hdl2⟩ : ∃ q, (putSt s p).pods.length = q := ⟨_, rfl⟩
   rw [hdl2] at hy3
   try rw [hdl2]
   clear hdl2
   obtain ⟨dl3, hdl3⟩ : ∃ q, (putSt s p).buds.length = q := ⟨_, rfl⟩
   rw [hdl3] at hy3
   try rw [hdl3]
   clear hdl3
   have HY3 := lH hy3
   clear hy3
   clear kk
   refine hK9.out _ _ (HF.out _ J.out) (fun hHeld3 => ?_)
   clear hK9 K9
   try simp only [nP]
   refine rdH (rs := [7]) (h := coH (fun K9 hK9 => ?_) AllReadyH.nil)
   go_simp
   refine (lawSameR (c := true) HY1.out HY3.out PLOW.out (show (putSt s p).nodes.length ≤ 1000 by have := HLEN.out.1; show s.nodes.length ≤ 1000; omega) (show (putSt s p).pods.length ≤ 1000 by have h1 := put_len (s := s) p; have h2 := drop_len' s p.name; have := HLEN.out.2.1; omega) (show (putSt s p).buds.length ≤ 1000 by have := HLEN.out.2.2; show s.buds.length ≤ 1000; omega) (sameSt_self _)).mono ?_
   rintro e q4 ⟨rfl, kk⟩
   have J := lH (J.out.trans kk)
   clear HY1 HY2 HY3 HPU PLOW
   clear kk
   refine hK9.out _ _ (HF.out _ J.out) (fun hHeld4 => ?_)
   clear hK9 K9
   try simp only [nP]
   refine tkH 8 (v := ?_) (y := Or.inl ⟨by rfl, (by rintro W ⟨o0, o1, o2, o3, o4, o5, o6, o7, o8, o9, o10, o11, o12, o13, o14, o15, o16⟩; go_simp <;> with_reducible rfl)⟩) (h := ?_)
   try simp only [nP]
   refine tkH 9 (v := ?_) (y := Or.inl ⟨by rfl, (by rintro W ⟨o0, o1, o2, o3, o4, o5, o6, o7, o8, o9, o10, o11, o12, o13, o14, o15, o16⟩; go_simp <;> with_reducible rfl)⟩) (h := ?_)
   try simp only [nP]
   refine tkH 10 (v := ?_) (y := Or.inl ⟨by rfl, (by rintro W ⟨o0, o1, o2, o3, o4, o5, o6, o7, o8, o9, o10, o11, o12, o13, o14, o15, o16⟩; go_simp <;> with_reducible rfl)⟩) (h := ?_)
   try simp only [nP]
   refine tkH 12 (v := ?_) (y := Or.inl ⟨by rfl, (by rintro W ⟨o0, o1, o2, o3, o4, o5, o6, o7, o8, o9, o10, o11, o12, o13, o14, o15, o16⟩; go_simp <;> with_reducible rfl)⟩) (h := ?_)
   try simp only [nP]
   refine tkH 13 (v := ?_) (y := Or.inl ⟨by rfl, (by rintro W ⟨o0, o1, o2, o3, o4, o5, o6, o7, o8, o9, o10, o11, o12, o13, o14, o15, o16⟩; go_simp <;> with_reducible rfl)⟩) (h := ?_)
   try simp only [nP]
   refine rdH (rs := [11]) (h := coH (fun K9 hK9 => ?_) AllReadyH.nil)
   go_simp
   refine (dropStR (HS.out.kept J.out) x HL.out).mono ?_
   rintro e q5 ⟨y1, rfl, hy1, kk⟩
   have J := lH (J.out.trans kk)
   have hs0 := hy1
   obtain ⟨_, _, _, rfl, ⟨fa1, fc1, rfl, -, -, -⟩, ⟨fa2, fc2, rfl, -, -, -⟩, ⟨fa3, fc3, rfl, -, -, -⟩⟩ := hs0
   obtain ⟨fl1, hfl1⟩ : ∃ q, (dropSt s x).nodes.length = q := ⟨_, rfl⟩
   rw [hfl1] at hy1
   try rw [hfl1]
   clear hfl1
   obtain ⟨fl2, hfl2⟩ : ∃ q, (dropSt s x).pods.length = q := ⟨_, rfl⟩
   rw [hfl2] at hy1
   try rw [hfl2]
   clear hfl2
   obtain ⟨fl3, hfl3⟩ : ∃ q, (dropSt s x).buds.length = q := ⟨_, rfl⟩
   rw [hfl3] at hy1
   try rw [hfl3]
   clear hfl3
   have HY1 := lH hy1
   clear hy1
   clear kk
   refine hK9.out _ _ (HF.out _ J.out) (fun hHeld5 => ?_)
   clear hK9 K9
   try simp only [nP]
   have HPU := lH (rdropStR (HX.out.kept J.out) x (by have := HLEN.out.2.1; omega))
   rw [rdropSt_asc HASC.out] at HPU
   have PLOW := lH (drop_low HL.out x)
   refine rdH (rs := [14]) (h := coH (fun K9 hK9 => ?_) AllReadyH.nil)
   go_simp
   refine (HPU.out).mono ?_
   rintro e q6 ⟨y3, rfl, hy3, kk⟩
   have J := lH (J.out.trans kk)
   have HY1 := lH (HY1.out.kept kk)
   have hs0 := hy3
   obtain ⟨_, _, _, rfl, ⟨ga1, gc1, rfl, -, -, -⟩, ⟨ga2, gc2, rfl, -, -, -⟩, ⟨ga3, gc3, rfl, -, -, -⟩⟩ := hs0
   obtain ⟨gl1, hgl1⟩ : ∃ q, (dropSt s x).nodes.length = q := ⟨_, rfl⟩
   rw [hgl1] at hy3
   try rw [hgl1]
   clear hgl1
   obtain ⟨gl2, hgl2⟩ : ∃ q, (dropSt s x).pods.length = q := ⟨_, rfl⟩
   rw [hgl2] at hy3
   try rw [hgl2]
   clear hgl2
   obtain ⟨gl3, hgl3⟩ : ∃ q, (dropSt s x).buds.length = q := ⟨_, rfl⟩
   rw [hgl3] at hy3
   try rw [hgl3]
   clear hgl3
   have HY3 := lH hy3
   clear hy3
   clear kk
   refine hK9.out _ _ (HF.out _ J.out) (fun hHeld6 => ?_)
   clear hK9 K9
   try simp only [nP]
   refine rdH (rs := [15]) (h := coH (fun K9 hK9 => ?_) AllReadyH.nil)
   go_simp
   refine (lawSameR (c := true) HY1.out HY3.out PLOW.out (show (dropSt s x).nodes.length ≤ 1000 by have := HLEN.out.1; show s.nodes.length ≤ 1000; omega) (show (dropSt s x).pods.length ≤ 1000 by have h2 := drop_len' s x; have := HLEN.out.2.1; omega) (show (dropSt s x).buds.length ≤ 1000 by have := HLEN.out.2.2; show s.buds.length ≤ 1000; omega) (sameSt_self _)).mono ?_
   rintro e q7 ⟨rfl, kk⟩
   have J := lH (J.out.trans kk)
   clear HY1 HY3 HPU PLOW
   clear kk
   refine hK9.out _ _ (HF.out _ J.out) (fun hHeld7 => ?_)
   clear hK9 K9
   try simp only [nP]
   refine tkH 16 (v := ?_) (y := Or.inl ⟨by rfl, (by rintro W ⟨o0, o1, o2, o3, o4, o5, o6, o7, o8, o9, o10, o11, o12, o13, o14, o15, o16⟩; go_simp <;> with_reducible rfl)⟩) (h := ?_)
   try simp only [nP]
   refine tkH 17 (v := ?_) (y := Or.inl ⟨by rfl, (by rintro W ⟨o0, o1, o2, o3, o4, o5, o6, o7, o8, o9, o10, o11, o12, o13, o14, o15, o16⟩; go_simp <;> with_reducible rfl)⟩) (h := ?_)
   try simp only [nP]
   refine tkH 18 (v := ?_) (y := Or.inl ⟨by rfl, (by rintro W ⟨o0, o1, o2, o3, o4, o5, o6, o7, o8, o9, o10, o11, o12, o13, o14, o15, o16⟩; go_simp <;> with_reducible rfl)⟩) (h := ?_)
   try simp only [nP]
   refine tkH 19 (v := ?_) (y := Or.inl ⟨by rfl, (by rintro W ⟨o0, o1, o2, o3, o4, o5, o6, o7, o8, o9, o10, o11, o12, o13, o14, o15, o16⟩; go_simp <;> with_reducible rfl)⟩) (h := ?_)
   try simp only [nP]
   refine tkH 20 (v := ?_) (y := Or.inl ⟨by rfl, (by rintro W ⟨o0, o1, o2, o3, o4, o5, o6, o7, o8, o9, o10, o11, o12, o13, o14, o15, o16⟩; go_simp <;> with_reducible rfl)⟩) (h := ?_)
   try simp only [nP]
   refine tkH 22 (v := ?_) (y := Or.inl ⟨by rfl, (by rintro W ⟨o0, o1, o2, o3, o4, o5, o6, o7, o8, o9, o10, o11, o12, o13, o14, o15, o16⟩; go_simp <;> with_reducible rfl)⟩) (h := ?_)
   try simp only [nP]
   refine tkH 23 (v := ?_) (y := Or.inl ⟨by rfl, (by rintro W ⟨o0, o1, o2, o3, o4, o5, o6, o7, o8, o9, o10, o11, o12, o13, o14, o15, o16⟩; go_simp <;> with_reducible rfl)⟩) (h := ?_)
   try simp only [nP]
   refine tkH 24 (v := ?_) (y := Or.inl ⟨by rfl, (by rintro W ⟨o0, o1, o2, o3, o4, o5, o6, o7, o8, o9, o10, o11, o12, o13, o14, o15, o16⟩; go_simp <;> with_reducible rfl)⟩) (h := ?_)
   try simp only [nP]
   refine rdH (rs := [21]) (h := coH (fun K9 hK9 => ?_) AllReadyH.nil)
   go_simp
   refine (moveStR (HS.out.kept J.out) x y HYS.out HL.out).mono ?_
   rintro e q8 ⟨y1, rfl, hy1, kk⟩
   have J := lH (J.out.trans kk)
   have hs0 := hy1
   obtain ⟨_, _, _, rfl, ⟨ia1, ic1, rfl, -, -, -⟩, ⟨ia2, ic2, rfl, -, -, -⟩, ⟨ia3, ic3, rfl, -, -, -⟩⟩ := hs0
   obtain ⟨il1, hil1⟩ : ∃ q, (moveSt s x y).nodes.length = q := ⟨_, rfl⟩
   rw [hil1] at hy1
   try rw [hil1]
   clear hil1
   obtain ⟨il2, hil2⟩ : ∃ q, (moveSt s x y).pods.length = q := ⟨_, rfl⟩
   rw [hil2] at hy1
   try rw [hil2]
   clear hil2
   obtain ⟨il3, hil3⟩ : ∃ q, (moveSt s x y).buds.length = q := ⟨_, rfl⟩
   rw [hil3] at hy1
   try rw [hil3]
   clear hil3
   have HY1 := lH hy1
   clear hy1
   clear kk
   refine hK9.out _ _ (HF.out _ J.out) (fun hHeld8 => ?_)
   clear hK9 K9
   try simp only [nP]
   have HPU := lH (rmoveStR (HX.out.kept J.out) x y HYS.out (by have := HLEN.out.2.1; omega))
   rw [rmoveSt_asc HASC.out] at HPU
   have PLOW := lH (move_low HL.out x y)
   refine rdH (rs := [25]) (h := coH (fun K9 hK9 => ?_) AllReadyH.nil)
   go_simp
   refine (HPU.out).mono ?_
   rintro e q9 ⟨y3, rfl, hy3, kk⟩
   have J := lH (J.out.trans kk)
   have HY1 := lH (HY1.out.kept kk)
   have hs0 := hy3
   obtain ⟨_, _, _, rfl, ⟨ja1, jc1, rfl, -, -, -⟩, ⟨ja2, jc2, rfl, -, -, -⟩, ⟨ja3, jc3, rfl, -, -, -⟩⟩ := hs0
   obtain ⟨jl1, hjl1⟩ : ∃ q, (moveSt s x y).nodes.length = q := ⟨_, rfl⟩
   rw [hjl1] at hy3
   try rw [hjl1]
   clear hjl1
   obtain ⟨jl2, hjl2⟩ : ∃ q, (moveSt s x y).pods.length = q := ⟨_, rfl⟩
   rw [hjl2] at hy3
   try rw [hjl2]
   clear hjl2
   obtain ⟨jl3, hjl3⟩ : ∃ q, (moveSt s x y).buds.length = q := ⟨_, rfl⟩
   rw [hjl3] at hy3
   try rw [hjl3]
   clear hjl3
   have HY3 := lH hy3
   clear hy3
   clear kk
   refine hK9.out _ _ (HF.out _ J.out) (fun hHeld9 => ?_)
   clear hK9 K9
   try simp only [nP]
   refine rdH (rs := [26]) (h := coH (fun K9 hK9 => ?_) AllReadyH.nil)
   go_simp
   refine (lawSameR (c := true) HY1.out HY3.out PLOW.out (show (moveSt s x y).nodes.length ≤ 1000 by have := HLEN.out.1; show s.nodes.length ≤ 1000; omega) (show (moveSt s x y).pods.length ≤ 1000 by have h2 := move_len' s x y; have := HLEN.out.2.1; omega) (show (moveSt s x y).buds.length ≤ 1000 by have := HLEN.out.2.2; show s.buds.length ≤ 1000; omega) (sameSt_self _)).mono ?_
   rintro e q10 ⟨rfl, kk⟩
   have J := lH (J.out.trans kk)
   clear HY1 HY3 HPU PLOW
   clear kk
   refine hK9.out _ _ (HF.out _ J.out) (fun hHeld10 => ?_)
   clear hK9 K9
   try simp only [nP]
   refine tkH 27 (v := ?_) (y := Or.inl ⟨by rfl, (by rintro W ⟨o0, o1, o2, o3, o4, o5, o6, o7, o8, o9, o10, o11, o12, o13, o14, o15, o16⟩; go_simp <;> with_reducible rfl)⟩) (h := ?_)
   try simp only [nP]
   refine tkH 28 (v := ?_) (y := Or.inl ⟨by rfl, (by rintro W ⟨o0, o1, o2, o3, o4, o5, o6, o7, o8, o9, o10, o11, o12, o13, o14, o15, o16⟩; go_simp <;> with_reducible rfl)⟩) (h := ?_)
   try simp only [nP]
   refine tkH 29 (v := ?_) (y := Or.inl ⟨by rfl, (by rintro W ⟨o0, o1, o2, o3, o4, o5, o6, o7, o8, o9, o10, o11, o12, o13, o14, o15, o16⟩; go_simp <;> with_reducible rfl)⟩) (h := ?_)
   try simp only [nP]
   refine tkH 30 (v := ?_) (y := Or.inl ⟨by rfl, (by rintro W ⟨o0, o1, o2, o3, o4, o5, o6, o7, o8, o9, o10, o11, o12, o13, o14, o15, o16⟩; go_simp <;> with_reducible rfl)⟩) (h := ?_)
   try simp only [nP]
   refine rdH (rs := [31]) (h := coH (fun K9 hK9 => ?_) AllReadyH.nil)
   go_simp
   refine (lawSameR (c := true) (HS.out.kept J.out) (HX.out.kept J.out) HL.out (by have := HLEN.out.1; omega) (by have := HLEN.out.2.1; omega) (by have := HLEN.out.2.2; omega) (sameSt_self _)).mono ?_
   rintro e q11 ⟨rfl, kk⟩
   have J := lH (J.out.trans kk)
   clear kk
   refine hK9.out _ _ (HF.out _ J.out) (fun hHeld11 => ?_)
   clear hK9 K9
   try simp only [nP]
   refine tkH 32 (v := ?_) (y := Or.inl ⟨by rfl, (by rintro W ⟨o0, o1, o2, o3, o4, o5, o6, o7, o8, o9, o10, o11, o12, o13, o14, o15, o16⟩; go_simp <;> with_reducible rfl)⟩) (h := ?_)
   try simp only [nP]
   refine tkH 33 (v := ?_) (y := Or.inl ⟨by rfl, (by rintro W ⟨o0, o1, o2, o3, o4, o5, o6, o7, o8, o9, o10, o11, o12, o13, o14, o15, o16⟩; go_simp <;> with_reducible rfl)⟩) (h := ?_)
   try simp only [nP]
   refine wpAnyH_done (by kernel_rfl) ?_ _
   go_wp2
   go_ret
   exact ⟨rfl, HKZ.out.trans (K.out.trans J.out)⟩
end Go.Proofs.YtfpgekjhcfoohaaGreat
