/- Clusters: the reference's Drop. -/
import Derived.Test.YtfpgekjhcfoohaaGreatShort
import Derived.Test.YtfpgekjhcfoohaaGreatStRefWith
import Derived.Test.YtfpgekjhcfoohaaGreatStRow
import Derived.Deep.RegionHeld3
set_option linter.unusedVariables false
namespace Go.Proofs.YtfpgekjhcfoohaaGreat
open Go.RowKit
set_option maxRecDepth 100000 in
set_option maxHeartbeats 12800000 in
theorem rdropStR {v : Value} {s : Clu} {w : World} (h : CluR w v s) (x : ByteArray) (hl : s.pods.length ≤ 100000) : Calls Tryz.prog 26 #[v, .string x] w (TellsS (rdropSt s x) w) := by
 have h0 := h
 obtain ⟨v1, v2, v3, rfl, ⟨a, cap, rfl, -, -, -⟩, ⟨b, cp, rfl, -, -, -⟩, ⟨d, cb, rfl, -, -, -⟩⟩ := h0
 obtain ⟨len, hl1⟩ : ∃ q, s.nodes.length = q := ⟨_, rfl⟩
 obtain ⟨m, hl2⟩ : ∃ q, s.pods.length = q := ⟨_, rfl⟩
 obtain ⟨n, hl3⟩ : ∃ q, s.buds.length = q := ⟨_, rfl⟩
 rw [hl1, hl2, hl3] at h ⊢
 rw [hl2] at hl
 clear hl1 hl2 hl3
 obtain ⟨i0, hi, hz0, hz1, hz2'⟩ := info_parts infoRP
 obtain ⟨Z, hZ⟩ : ∃ Z, (w.alloc (.cells #[.slice a len cap, .slice b m cp, .slice d n cb] 35)).alloc (.cells #[.slice none 0 0, .slice none 0 0, .slice none 0 0] 35) = Z := ⟨_, rfl⟩
 have hkz : Kept w Z := by rw [← hZ]; exact kept_two _ _ _
 have HQ := lH (show CellsN w.heap.size [.slice a len cap, .slice b m cp, .slice d n cb] Z from freshN w (.slice a len cap) [.slice b m cp, .slice d n cb] 35 Z (by rw [← hZ]; exact kept_alloc _ _))
 have HH := lH (show CellsN (w.heap.size + 1) [.slice none 0 0, .slice none 0 0, .slice none 0 0] Z by
  have dd := freshN (w.alloc (.cells #[.slice a len cap, .slice b m cp, .slice d n cb] 35)) (.slice none 0 0) [.slice none 0 0, .slice none 0 0] 35 Z (by rw [hZ]; exact Kept.refl _)
  rw [World.size_alloc] at dd
  exact dd)
 have HSL := lH (show ∀ W, Kept Z W → AllSl W (w.heap.size + 1) from fun W k => by
  have hh : Z.heap[w.heap.size + 1]? = some (.cells #[.slice none 0 0, .slice none 0 0, .slice none 0 0] 35) := by
   have := (w.alloc (.cells #[.slice a len cap, .slice b m cp, .slice d n cb] 35)).alloc_heap_new (.cells #[.slice none 0 0, .slice none 0 0, .slice none 0 0] 35)
   rw [World.size_alloc, hZ] at this
   exact this
  exact all_sl ((k.block _ (Array.getElem?_eq_some_iff.1 hh).1).trans hh))
 have HV := lH (h.kept hkz)
 have HKZ := lH hkz
 clear h hkz
 obtain ⟨lx, hlx, hrow, hat4⟩ := pods_px HV.out.podsAt
 have HRX := lH hrow
 have HLX := lH hlx
 have HAT := lH hat4
 have hlen : lx.length = m := hrow.1
 have HLEN := lH hlen
 have hmm := hrow.2.1
 unfold maxLen at hmm
 clear hrow hlx hat4 hlen
 have cq0 := (HQ.out.kept (Kept.refl _)).at_ 0 _ rfl
 have cq1 := (HQ.out.kept (Kept.refl _)).at_ 1 _ rfl
 have cq2 := (HQ.out.kept (Kept.refl _)).at_ 2 _ rfl
 go_enter Tryz.func26, Tryz.ntmps26
 go_upto_region 1 with fail
 try rw [hZ]
 clear hZ cq0 cq1 cq2
 go_wp2
 go_loopw [5, 6] (fun v i wr => ∃ k : Nat, k ≤ m ∧ i = .int .i64 k ∧ ∃ ly : List PX, ly = (lx.take k).filter (fun z => !eqS z.1.name x) ∧ ly.length ≤ k ∧ Own PodLay0 69 wr Z.heap.size v ly ∧ Kept Z wr) (fun _ i _ => m - (intOf i).toNat)
 case atStart => exact ⟨0, Nat.zero_le _, rfl, [], rfl, Nat.le_refl _, Own.nil _ _ _, Kept.refl _⟩
 case round =>
  obtain ⟨k, hk, rfl, ly, hly, hll, ho, hK⟩ := hrel
  have HLY := lH hly
  have HLL := lH hll
  have HO := lH ho
  have HK := lH hK
  have cq0 := (HQ.out.kept hK).at_ 0 _ rfl
  have cq1 := (HQ.out.kept hK).at_ 1 _ rfl
  have cq2 := (HQ.out.kept hK).at_ 2 _ rfl
  by_cases hlt : k < m
  · have hkk : (k : Int) < (m : Int) := by omega
    obtain ⟨b9, off, rfl⟩ := HRX.out.form.resolve_left (by omega)
    obtain ⟨z, hz, hd, hb, -, hc⟩ := (HRX.out.kept hK).cells hlt
    have HZZ := lH hz
    obtain ⟨n9, ⟨a1, m1, c1⟩, ⟨a2, m2, c2⟩, ⟨a3, m3, c3⟩, ⟨a4, m4, c4⟩⟩ := z
    have p0 : wr.cell? ⟨b9, off + k * 11, none⟩ = some (.string n9.name) := hc 0 _ rfl
    have p1 : wr.cell? ⟨b9, off + k * 11 + 1, none⟩ = some (.string n9.owner) := hc 1 _ rfl
    have p2 : wr.cell? ⟨b9, off + k * 11 + 2, none⟩ = some (.int .i64 n9.prio) := hc 2 _ rfl
    have p3 : wr.cell? ⟨b9, off + k * 11 + 3, none⟩ = some (.slice a1 m1 c1) := hc 3 _ rfl
    have p4 : wr.cell? ⟨b9, off + k * 11 + 4, none⟩ = some (.slice a2 m2 c2) := hc 4 _ rfl
    have p5 : wr.cell? ⟨b9, off + k * 11 + 5, none⟩ = some (.slice a3 m3 c3) := hc 5 _ rfl
    have p6 : wr.cell? ⟨b9, off + k * 11 + 6, none⟩ = some (.slice a4 m4 c4) := hc 6 _ rfl
    have p7 : wr.cell? ⟨b9, off + k * 11 + 7, none⟩ = some (.string n9.key) := hc 7 _ rfl
    have p8 : wr.cell? ⟨b9, off + k * 11 + 8, none⟩ = some (.int .i64 n9.most) := hc 8 _ rfl
    have p9 : wr.cell? ⟨b9, off + k * 11 + 9, none⟩ = some (.string n9.node) := hc 9 _ rfl
    have p10 : wr.cell? ⟨b9, off + k * 11 + 10, none⟩ = some (.bool n9.hold) := hc 10 _ rfl
    obtain ⟨e1, he1⟩ : ∃ e, eqS n9.name x = e := ⟨_, rfl⟩
    have he1' : (n9.name.toList == x.toList) = e1 := he1
    have he1n : (n9.name.toList != x.toList) = !e1 := by rw [bne, he1']
    have HE := lH he1
    have HST := lH (show (lx.take (k + 1)).filter (fun z : PX => !eqS z.1.name x) = ly ++ (if (!e1) = true then [(n9, (a1, m1, c1), (a2, m2, c2), (a3, m3, c3), (a4, m4, c4))] else []) by
     have hz9 : lx[k]? = some (n9, (a1, m1, c1), (a2, m2, c2), (a3, m3, c3), (a4, m4, c4)) := HZZ.out
     rw [take_snoc hz9, List.filter_append, ← HLY.out, List.filter_cons, List.filter_nil]
     simp only [HE.out])
    clear hly hll ho hK hz hd hc hb he1
    cases e1 with
    | true =>
     have HX := lH (show ly = (lx.take (k + 1)).filter (fun z : PX => !eqS z.1.name x) by rw [HST.out]; simp)
     go_wp2
     go_roundw
     case rel => exact ⟨k + 1, by omega, by go_num, ly, HX.out, by have := HLL.out; omega, HO.out, HK.out⟩
     case measure => simp [intOf]; omega
    | false =>
     obtain ⟨len1, hlen1⟩ : ∃ q, ly.length = q := ⟨_, rfl⟩
     have HL1 := lH hlen1
     rw [hlen1] at HLL
     clear hlen1
     have hbase : Z.heap.size ≤ wr.heap.size := HK.out.size
     have HOWN := lH (show wr.ownsRow Z.heap.size 69 11 u5 len1 (rowCells PodLay0 ly) by have := HO.out.1; rw [HL1.out] at this; exact this)
     go_wp2_with (at_builtin; refine wpList_append_lies _ rfl _ _ _ rfl Z.heap.size 69 i0 _ 11 184 Tryz.underlying32 hi hz0 hz1 hz2' rfl (by decide) u5 len1 (rowCells PodLay0 ly) rfl (HOWN.out.alloc _) ⟨wr.heap.size, 0, none⟩ 1 1 (PodLay0.cs (n9, (a1, m1, c1), (a2, m2, c2), (a3, m3, c3), (a4, m4, c4))) rfl rfl (World.news_of_block (cs := #[.string n9.name, .string n9.owner, .int .i64 n9.prio, .slice a1 m1 c1, .slice a2 m2 c2, .slice a3 m3 c3, .slice a4 m4 c4, .string n9.key, .int .i64 n9.most, .string n9.node, .bool n9.hold]) (t := 69) (fr := (0, 0)) (heap_alloc_new wr _)) (one_pod0 _) (by decide) (by unfold maxLen; have := HLL.out; omega) (by have := HLL.out; omega) (by simp; omega) (wr.heap.size + 1) (by simp) ?_; intro gg cap1 w2 hown1 hgrow hat hlt1)
     have HON := lH (show Own PodLay0 69 w2 Z.heap.size (.slice (some ⟨gg, 0, none⟩) (len1 + 1) cap1) (ly ++ [(n9, (a1, m1, c1), (a2, m2, c2), (a3, m3, c3), (a4, m4, c4))]) from Own.snoc hown1 (by rw [HL1.out]) HO.out.2 trivial)
     have HKN := lH (show Kept Z w2 from (show Below Z.heap.size Z _ from HK.out.trans (kept_alloc wr (.cells #[.string n9.name, .string n9.owner, .int .i64 n9.prio, .slice a1 m1 c1, .slice a2 m2 c2, .slice a3 m3 c3, .slice a4 m4 c4, .string n9.key, .int .i64 n9.most, .string n9.node, .bool n9.hold] 69))).grown hgrow (by rw [World.size_alloc]; omega) (fun j hj => (HOWN.out.lt j hj).1))
     have HX := lH (show ly ++ [(n9, (a1, m1, c1), (a2, m2, c2), (a3, m3, c3), (a4, m4, c4))] = (lx.take (k + 1)).filter (fun z : PX => !eqS z.1.name x) by rw [HST.out]; rfl)
     clear hown1 hgrow hat hlt1
     go_wp2
     go_roundw
     case rel => exact ⟨k + 1, by omega, by go_num, _, HX.out, by rw [List.length_append, HL1.out]; have := HLL.out; simp; omega, HON.out, HKN.out⟩
     case measure => simp [intOf]; omega
  · have hkk : ¬ (k : Int) < (m : Int) := by omega
    have HPR := lH (show PodsR wr u5 (rdropP x s.pods) by
     have := pods_own ho (fun z hz => PodAt.kept (HAT.out z (List.mem_of_mem_take (List.mem_filter.1 (hly ▸ hz)).1)) hK)
     rw [hly, List.take_of_length_le (by rw [HLEN.out]; omega)] at this
     unfold rdropP
     rw [← HLX.out, List.filter_map]
     exact this)
    clear hly hll ho hK
    obtain ⟨b9, m9, c9, rfl, -, -, -⟩ := HPR.out.shape
    go_wp2_with fail
    refine (rwithR (HV.out.kept HK.out) HPR.out).mono ?_
    rintro e w9 ⟨y9, rfl, hy, kk⟩
    have hy0 := hy
    obtain ⟨_, _, _, rfl, ⟨g1, r1, rfl, -, -, -⟩, ⟨g2, r2, rfl, -, -, -⟩, ⟨g3, r3, rfl, -, -, -⟩⟩ := hy0
    have K9 := lH (HK.out.trans kk)
    obtain ⟨t1, ht1⟩ : ∃ q, ({ s with pods := rdropP x s.pods } : Clu).nodes.length = q := ⟨_, rfl⟩
    rw [ht1] at hy
    try rw [ht1]
    clear ht1
    obtain ⟨t2, ht2⟩ : ∃ q, ({ s with pods := rdropP x s.pods } : Clu).pods.length = q := ⟨_, rfl⟩
    rw [ht2] at hy
    try rw [ht2]
    clear ht2
    obtain ⟨t3, ht3⟩ : ∃ q, ({ s with pods := rdropP x s.pods } : Clu).buds.length = q := ⟨_, rfl⟩
    rw [ht3] at hy
    try rw [ht3]
    clear ht3
    have HY := lH hy
    clear hy kk cq0 cq1 cq2
    have H9 := lH (HH.out.kept K9.out)
    have z0 := H9.out.at_ 0 _ rfl
    have z1 := H9.out.at_ 1 _ rfl
    have z2 := H9.out.at_ 2 _ rfl
    have f0 := H9.out.free 0
    have f1 := H9.out.free 1
    have f2 := H9.out.free 2
    have PP := lH (putN (vs := [.slice g1 t1 r1, .slice g2 t2 r2, .slice g3 t3 r3]) H9.out rfl)
    go_wp2
    obtain ⟨WE, hWE⟩ : ∃ V, w9.setCells (w.heap.size + 1) 0 [.slice g1 t1 r1, .slice g2 t2 r2, .slice g3 t3 r3] = V := ⟨_, rfl⟩
    have hWE2 : (((w9.setCell ⟨(w.heap.size + 1), 0, none⟩ (.slice g1 t1 r1)).setCell ⟨(w.heap.size + 1), 1, none⟩ (.slice g2 t2 r2)).setCell ⟨(w.heap.size + 1), 2, none⟩ (.slice g3 t3 r3)) = WE := hWE
    rw [hWE] at PP
    try rw [hWE2]
    clear hWE hWE2
    obtain ⟨PC, hsz, hbl, hkp⟩ := PP.out
    refine bodyPost_ret (by simp [results, Tryz.results26, go_sem, PC.at_ 0 _ rfl, PC.at_ 1 _ rfl, PC.at_ 2 _ rfl]; try rfl) rfl ?_
    exact ⟨_, rfl, clu_pastS hsz hbl (HSL.out _ K9.out) HY.out, hkp _ _ (Nat.le_succ _) (HKZ.out.trans K9.out)⟩
end Go.Proofs.YtfpgekjhcfoohaaGreat
