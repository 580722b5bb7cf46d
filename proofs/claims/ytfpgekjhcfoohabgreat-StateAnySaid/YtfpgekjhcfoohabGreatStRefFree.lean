/- Clusters: what is left, what is on a node, as the reference tells. -/
import Derived.Test.YtfpgekjhcfoohabGreatStRefWith
import Derived.Test.YtfpgekjhcfoohabGreatStFaceR
import Derived.Test.YtfpgekjhcfoohabGreatRefVecSub
import Derived.Deep.RegionHeld3
namespace Go.Proofs.YtfpgekjhcfoohabGreat
open Go.RowKit
set_option linter.unusedVariables false

theorem free_bad {s : Clu} {x : ByteArray} {c : Int} {u : Vec.V} (h : usedSt s x = (c, u)) (hc : c ≠ 0) : freeSt s x = (c, []) := by
  unfold usedSt at h
  unfold freeSt
  cases hf : findN s.nodes x with
  | none =>
    rw [hf] at h
    dsimp only at h ⊢
    rw [(Prod.mk.inj h).1]
  | some n =>
    rw [hf] at h
    dsimp only at h ⊢
    rw [h, if_neg hc]
theorem free_ok {s : Clu} {x : ByteArray} {u : Vec.V} (h : usedSt s x = (0, u)) : ∃ n, findN s.nodes x = some n ∧ freeSt s x = Vec.mergedV Vec.subF n.cap u := by
  unfold usedSt at h
  unfold freeSt
  cases hf : findN s.nodes x with
  | none =>
    rw [hf] at h
    cases (Prod.mk.inj h).1
  | some n =>
    rw [hf] at h
    dsimp only at h ⊢
    exact ⟨n, rfl, by rw [h, if_pos rfl]⟩
theorem CluR.nodesR {w : World} {v1 v2 v3 : Value} {s : Clu} (h : CluR w (CluV v1 v2 v3) s) : NodesR w v1 s.nodes := by
  obtain ⟨_, _, _, e, g0⟩ := h
  cases e
  exact g0.nodes
set_option maxRecDepth 100000 in
set_option maxHeartbeats 6400000 in
theorem rfreeStR {v : Value} {s : Clu} {w : World} (h : CluR w v s) (x : ByteArray) : Calls Tryz.prog 16 #[v, .string x] w (RVec (freeSt s x) w) := by
  have h0 := h
  obtain ⟨v1, v2, v3, rfl, ⟨a, cap, rfl, -, -, -⟩, ⟨b, cp, rfl, -, -, -⟩, ⟨d, cb, rfl, -, -, -⟩⟩ := h0
  obtain ⟨len, hl1⟩ : ∃ q, s.nodes.length = q := ⟨_, rfl⟩
  obtain ⟨m, hl2⟩ : ∃ q, s.pods.length = q := ⟨_, rfl⟩
  obtain ⟨n, hl3⟩ : ∃ q, s.buds.length = q := ⟨_, rfl⟩
  rw [hl1, hl2, hl3] at h ⊢
  clear hl1 hl2 hl3
  obtain ⟨Z, hZ⟩ : ∃ Z, w.alloc (.cells #[.slice a len cap, .slice b m cp, .slice d n cb] 33) = Z := ⟨_, rfl⟩
  have hkz : Kept w Z := by rw [← hZ]; exact kept_alloc _ _
  have HQ := Lib.hid (show CellsN w.heap.size [.slice a len cap, .slice b m cp, .slice d n cb] Z from freshN w (.slice a len cap) [.slice b m cp, .slice d n cb] 33 Z (by rw [hZ]; exact Kept.refl _))
  have HV := Lib.hid (h.kept hkz)
  have HKZ := Lib.hid hkz
  clear h hkz
  obtain ⟨c, u, hcu⟩ : ∃ c u, usedSt s x = (c, u) := ⟨_, _, rfl⟩
  have HCU := Lib.hid hcu
  have cq0 := (HQ.out.kept (Kept.refl _)).at_ 0 _ rfl
  have cq1 := (HQ.out.kept (Kept.refl _)).at_ 1 _ rfl
  have cq2 := (HQ.out.kept (Kept.refl _)).at_ 2 _ rfl
  go_enter Tryz.func16, Tryz.ntmps16
  go_upto_region 1 with fail
  try rw [hZ]
  clear hZ
  go_wp2_with fail
  refine (rusedStR HV.out x).mono ?_
  rw [hcu]
  rintro e w1 ⟨y1, rfl, hy, kk⟩
  have HY := Lib.hid hy
  have K := Lib.hid kk
  clear hy kk hcu cq0 cq1 cq2
  have cq0 := (HQ.out.kept K.out).at_ 0 _ rfl
  have cq1 := (HQ.out.kept K.out).at_ 1 _ rfl
  have cq2 := (HQ.out.kept K.out).at_ 2 _ rfl
  dsimp only at HY
  by_cases hc : ¬ c = 0
  · have hcn : (c != 0) = true := by simpa using hc
    have HX := Lib.hid (free_bad HCU.out hc)
    clear hc
    go_wp2
    go_ret2
    exact RVec.mk' HX.out (vec_nil _) (HKZ.out.trans K.out)
  obtain rfl : c = 0 := Decidable.of_not_not hc
  obtain ⟨n9, hf, hfr⟩ := free_ok HCU.out
  have HFN := Lib.hid hf
  have HFR := Lib.hid hfr
  clear hc hf hfr
  go_wp2_with fail
  refine (rfindR (HV.out.kept K.out).nodesR).mono ?_
  rw [HFN.out]
  rintro e w2 ⟨y2, rfl, hr, kk⟩
  obtain ⟨q1, q2, q3, rfl, hat⟩ := hr
  have g1 := hat.cap
  have g2 := hat.labels
  have g3 := hat.taints
  have HCP := Lib.hid hat.cap
  obtain ⟨b1, d1, rfl, -, -, -⟩ := g1
  obtain ⟨b2, d2, rfl, -, -, -⟩ := g2
  obtain ⟨b3, d3, rfl, -, -, -⟩ := g3
  try unfold NodV
  dsimp only [Option.getD] at *
  obtain ⟨n1, hn1⟩ : ∃ q, n9.cap.length = q := ⟨_, rfl⟩
  obtain ⟨n2, hn2⟩ : ∃ q, n9.labels.length = q := ⟨_, rfl⟩
  obtain ⟨n3, hn3⟩ : ∃ q, n9.taints.length = q := ⟨_, rfl⟩
  try rw [hn1] at HCP
  try rw [hn1, hn2, hn3]
  have K := Lib.hid (K.out.trans kk)
  have HY := Lib.hid (HY.out.kept kk)
  clear hat kk hn1 hn2 hn3 cq0 cq1 cq2
  obtain ⟨W3, hW3⟩ : ∃ W, w2.alloc (.cells #[.string n9.name, .slice b1 n1 d1, .slice b2 n2 d2, .slice b3 n3 d3, .bool n9.cordon] 95) = W := ⟨_, rfl⟩
  have hk3 : Kept w2 W3 := by rw [← hW3]; exact kept_alloc _ _
  have HQX := Lib.hid (show CellsN w2.heap.size [.string n9.name, .slice b1 n1 d1, .slice b2 n2 d2, .slice b3 n3 d3, .bool n9.cordon] W3 from freshN w2 (.string n9.name) [.slice b1 n1 d1, .slice b2 n2 d2, .slice b3 n3 d3, .bool n9.cordon] 95 W3 (by rw [hW3]; exact Kept.refl _))
  obtain ⟨xq, hxq⟩ : ∃ q, w2.heap.size = q := ⟨_, rfl⟩
  rw [hxq] at HQX
  have HW3 := Lib.hid hW3
  clear hW3
  go_upto_region 5 with fail
  try rw [HW3.out]
  try rw [hxq]
  have K := Lib.hid (K.out.trans hk3)
  have HY := Lib.hid (HY.out.kept hk3)
  have HCP := Lib.hid (HCP.out.kept hk3)
  clear hk3 HW3 hxq
  have xq0 := HQX.out.at_ 0 _ rfl
  have xq1 := HQX.out.at_ 1 _ rfl
  have xq2 := HQX.out.at_ 2 _ rfl
  have xq3 := HQX.out.at_ 3 _ rfl
  have xq4 := HQX.out.at_ 4 _ rfl
  obtain ⟨c3, m3, hcm⟩ : ∃ c m, Vec.mergedV Vec.subF n9.cap u = (c, m) := ⟨_, _, rfl⟩
  have HX := Lib.hid (HFR.out.trans hcm)
  have HCC := Lib.hid (Vec.rsubvR HCP.out HY.out hcm)
  clear hcm
  go_wp2_with fail
  refine HCC.out.mono ?_
  rintro e w4 ⟨y4, rfl, hy, kk⟩
  have HY4 := Lib.hid hy
  have K := Lib.hid (K.out.trans kk)
  clear hy kk
  go_wp2
  go_ret2
  exact RVec.mk' HX.out HY4.out (HKZ.out.trans K.out)

set_option maxRecDepth 100000 in
set_option maxHeartbeats 12800000 in
theorem ronStR {v : Value} {s : Clu} {w : World} (h : CluR w v s) (x : ByteArray) (hl : s.pods.length ≤ 100000) : Calls Tryz.prog 20 #[v, .string x] w fun e w' => ∃ y, e = .returned y ∧ PodsR w' y (onP x s.pods) ∧ Kept w w' := by
  have h0 := h
  obtain ⟨v1, v2, v3, rfl, ⟨a, cap, rfl, -, -, -⟩, ⟨b, cp, rfl, -, -, -⟩, ⟨d, cb, rfl, -, -, -⟩⟩ := h0
  obtain ⟨len, hl1⟩ : ∃ q, s.nodes.length = q := ⟨_, rfl⟩
  obtain ⟨m, hl2⟩ : ∃ q, s.pods.length = q := ⟨_, rfl⟩
  obtain ⟨n, hl3⟩ : ∃ q, s.buds.length = q := ⟨_, rfl⟩
  rw [hl1, hl2, hl3] at h ⊢
  rw [hl2] at hl
  clear hl1 hl2 hl3
  obtain ⟨i0, hi, hz0, hz1, hz2'⟩ := info_parts infoRP
  obtain ⟨Z, hZ⟩ : ∃ Z, w.alloc (.cells #[.slice a len cap, .slice b m cp, .slice d n cb] 33) = Z := ⟨_, rfl⟩
  have hkz : Kept w Z := by rw [← hZ]; exact kept_alloc _ _
  have HQ := Lib.hid (show CellsN w.heap.size [.slice a len cap, .slice b m cp, .slice d n cb] Z from freshN w (.slice a len cap) [.slice b m cp, .slice d n cb] 33 Z (by rw [hZ]; exact Kept.refl _))
  have HV := Lib.hid (h.kept hkz)
  have HKZ := Lib.hid hkz
  clear h hkz
  obtain ⟨lx, hlx, hrow, hat4⟩ := pods_px HV.out.podsAt
  have HRX := Lib.hid hrow
  have HLX := Lib.hid hlx
  have HAT := Lib.hid hat4
  have hlen : lx.length = m := hrow.1
  have HLEN := Lib.hid hlen
  have hmm := hrow.2.1
  unfold maxLen at hmm
  clear hrow hlx hat4 hlen
  obtain ⟨t, ht⟩ : ∃ t, (x.toList == ([] : List UInt8)) = t := ⟨_, rfl⟩
  have HNO := Lib.hid (show isNo x = t by rw [no_iff]; exact ht)
  have htn : (x.toList != ([] : List UInt8)) = !t := by rw [bne, ht]
  have HON := Lib.hid (show onP x s.pods = s.pods.filter (fun p => eqS p.node x && !t) by
    unfold onP
    rw [HNO.out]
    cases t with
    | true => simp
    | false => simp)
  go_enter Tryz.func20, Tryz.ntmps20
  go_upto_region 1 with fail
  try rw [hZ]
  clear hZ
  go_wp2
  go_loopw [5, 6] (fun v i wr => ∃ k : Nat, k ≤ m ∧ i = .int .i64 k ∧ ∃ ly : List PX, ly = (lx.take k).filter (fun z => eqS z.1.node x && !t) ∧ ly.length ≤ k ∧ Own PodLay0 56 wr Z.heap.size v ly ∧ Kept Z wr) (fun _ i _ => m - (intOf i).toNat)
  case atStart => exact ⟨0, Nat.zero_le _, rfl, [], rfl, Nat.le_refl _, Own.nil _ _ _, Kept.refl _⟩
  case round =>
    obtain ⟨k, hk, rfl, ly, hly, hll, ho, hK⟩ := hrel
    have HLY := Lib.hid hly
    have HLL := Lib.hid hll
    have HO := Lib.hid ho
    have HK := Lib.hid hK
    have cq0 := (HQ.out.kept hK).at_ 0 _ rfl
    have cq1 := (HQ.out.kept hK).at_ 1 _ rfl
    have cq2 := (HQ.out.kept hK).at_ 2 _ rfl
    by_cases hlt : k < m
    · have hkk : (k : Int) < (m : Int) := by omega
      have hk0 : ¬ (k : Int) < 0 := by omega
      obtain ⟨b9, off, rfl⟩ := HRX.out.form.resolve_left (by omega)
      obtain ⟨z, hz, hd, hb, -, hc⟩ := (HRX.out.kept hK).cells hlt
      have HZZ := Lib.hid hz
      obtain ⟨n9, ⟨a1, m1, c1⟩, ⟨a2, m2, c2⟩, ⟨a3, m3, c3⟩, ⟨a4, m4, c4⟩⟩ := z
      have p0 : wr.cell? ⟨b9, off + k * 11, none⟩ = some (.string n9.name) := hc 0 _ rfl
      have p1 : wr.cell? ⟨b9, off + k * 11 + 1, none⟩ = some (.string n9.owner) := hc 1 _ rfl
      have p2 : wr.cell? ⟨b9, off + k * 11 + 2, none⟩ = some (.int .i64 n9.prio) := hc 2 _ rfl
      have p3 : wr.cell? ⟨b9, off + k * 11 + 3, none⟩ = some (.slice a1 m1 c1) := hc 3 _ rfl
      have p4 : wr.cell? ⟨b9, off + k * 11 + 4, none⟩ = some (.slice a2 m2 c2) := hc 4 _ rfl
      have p5 : wr.cell? ⟨b9, off + k * 11 + 5, none⟩ = some (.slice a3 m3 c3) := hc 5 _ rfl
      have p6 : wr.cell? ⟨b9, off + k * 11 + 6, none⟩ = some (.slice a4 m4 c4) := hc 6 _ rfl
      have p7 : wr.cell? ⟨b9, off + k * 11 + 7, none⟩ = some (.string n9.key) := hc 7 _ rfl
      have p8 : wr.cell? ⟨b9, off + k * 11 + 8, none⟩ = some (.int .i64 n9.most) := hc 8 _ rfl
      have p9 : wr.cell? ⟨b9, off + k * 11 + 9, none⟩ = some (.string n9.node) := hc 9 _ rfl
      have p10 : wr.cell? ⟨b9, off + k * 11 + 10, none⟩ = some (.bool n9.hold) := hc 10 _ rfl
      obtain ⟨e1, he1⟩ : ∃ e, eqS n9.node x = e := ⟨_, rfl⟩
      have he1' : (n9.node.toList == x.toList) = e1 := he1
      have HE := Lib.hid he1
      have HST := Lib.hid (show (lx.take (k + 1)).filter (fun z : PX => eqS z.1.node x && !t) = ly ++ (if (e1 && !t) = true then [(n9, (a1, m1, c1), (a2, m2, c2), (a3, m3, c3), (a4, m4, c4))] else []) by
        have hz9 : lx[k]? = some (n9, (a1, m1, c1), (a2, m2, c2), (a3, m3, c3), (a4, m4, c4)) := HZZ.out
        rw [take_snoc hz9, List.filter_append, ← HLY.out, List.filter_cons, List.filter_nil]
        simp only [HE.out])
      clear hly hll ho hK hz hd hc hb he1
      cases e1 with
      | false =>
        have HX := Lib.hid (show ly = (lx.take (k + 1)).filter (fun z : PX => eqS z.1.node x && !t) by rw [HST.out]; simp)
        go_wp2
        go_roundw
        case rel => exact ⟨k + 1, by omega, by go_num, ly, HX.out, by have := HLL.out; omega, HO.out, HK.out⟩
        case measure => simp [intOf]; omega
      | true =>
        cases t with
        | true =>
          have htf : (x.toList != ([] : List UInt8)) = false := htn
          have HX := Lib.hid (show ly = (lx.take (k + 1)).filter (fun z : PX => eqS z.1.node x && !true) by rw [HST.out]; simp)
          go_wp2
          go_roundw
          case rel => exact ⟨k + 1, by omega, by go_num, ly, HX.out, by have := HLL.out; omega, HO.out, HK.out⟩
          case measure => simp [intOf]; omega
        | false =>
          have htf : (x.toList != ([] : List UInt8)) = true := htn
          obtain ⟨len1, hlen1⟩ : ∃ q, ly.length = q := ⟨_, rfl⟩
          have HL1 := Lib.hid hlen1
          rw [hlen1] at HLL
          clear hlen1
          have hbase : Z.heap.size ≤ wr.heap.size := HK.out.size
          have HOWN := Lib.hid (show wr.ownsRow Z.heap.size 56 11 u5 len1 (rowCells PodLay0 ly) by have := HO.out.1; rw [HL1.out] at this; exact this)
          go_wp2_with (at_builtin; refine wpList_append_lies _ rfl _ _ _ rfl Z.heap.size 56 i0 _ 11 184 Tryz.underlying30 hi hz0 hz1 hz2' rfl (by decide) u5 len1 (rowCells PodLay0 ly) rfl (HOWN.out.alloc _) ⟨wr.heap.size, 0, none⟩ 1 1 (PodLay0.cs (n9, (a1, m1, c1), (a2, m2, c2), (a3, m3, c3), (a4, m4, c4))) rfl rfl (World.news_of_block (cs := #[.string n9.name, .string n9.owner, .int .i64 n9.prio, .slice a1 m1 c1, .slice a2 m2 c2, .slice a3 m3 c3, .slice a4 m4 c4, .string n9.key, .int .i64 n9.most, .string n9.node, .bool n9.hold]) (t := 56) (fr := (0, 0)) (heap_alloc_new wr _)) (one_pod0 _) (by decide) (by unfold maxLen; have := HLL.out; omega) (by have := HLL.out; omega) (by simp; omega) (wr.heap.size + 1) (by simp) ?_; intro gg cap1 w2 hown1 hgrow hat hlt1)
          have HOX := Lib.hid (show Own PodLay0 56 w2 Z.heap.size (.slice (some ⟨gg, 0, none⟩) (len1 + 1) cap1) (ly ++ [(n9, (a1, m1, c1), (a2, m2, c2), (a3, m3, c3), (a4, m4, c4))]) from Own.snoc hown1 (by rw [HL1.out]) HO.out.2 trivial)
          have HKN := Lib.hid (show Kept Z w2 from (show Below Z.heap.size Z _ from HK.out.trans (kept_alloc wr (.cells #[.string n9.name, .string n9.owner, .int .i64 n9.prio, .slice a1 m1 c1, .slice a2 m2 c2, .slice a3 m3 c3, .slice a4 m4 c4, .string n9.key, .int .i64 n9.most, .string n9.node, .bool n9.hold] 56))).grown hgrow (by rw [World.size_alloc]; omega) (fun j hj => (HOWN.out.lt j hj).1))
          have HX := Lib.hid (show ly ++ [(n9, (a1, m1, c1), (a2, m2, c2), (a3, m3, c3), (a4, m4, c4))] = (lx.take (k + 1)).filter (fun z : PX => eqS z.1.node x && !false) by rw [HST.out]; rfl)
          clear hown1 hgrow hat hlt1
          go_wp2
          go_roundw
          case rel => exact ⟨k + 1, by omega, by go_num, _, HX.out, by rw [List.length_append, HL1.out]; have := HLL.out; simp; omega, HOX.out, HKN.out⟩
          case measure => simp [intOf]; omega
    · have hkk : ¬ (k : Int) < (m : Int) := by omega
      have HPR := Lib.hid (show PodsR wr u5 (onP x s.pods) by
        have := pods_own ho (fun z hz => PodAt.kept (HAT.out z (List.mem_of_mem_take (List.mem_filter.1 (hly ▸ hz)).1)) hK)
        rw [hly, List.take_of_length_le (by rw [HLEN.out]; omega)] at this
        rw [HON.out, ← HLX.out, List.filter_map]
        exact this)
      clear hly hll ho hK
      go_wp2
      go_ret
      exact ⟨_, rfl, HPR.out, HKZ.out.trans HK.out⟩

end Go.Proofs.YtfpgekjhcfoohabGreat
