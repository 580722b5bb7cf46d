/- Clusters: the reference's Move. -/
import Derived.Test.YtfpgekjhcfoohaaGreatShort
import Derived.Test.YtfpgekjhcfoohaaGreatStRefWith
import Derived.Deep.RegionHeld3
set_option linter.unusedVariables false
namespace Go.Proofs.YtfpgekjhcfoohaaGreat
open Go.RowKit
def mvX (x y : ByteArray) (z : PX) : PX := if eqS z.1.name x = true then ({ z.1 with node := y }, z.2) else z
def mvL (x y : ByteArray) (lx : List PX) (k : Nat) : List PX := (lx.take k).map (mvX x y) ++ lx.drop k
theorem mvL_len {x y : ByteArray} {lx : List PX} {k : Nat} (hk : k ≤ lx.length) : (mvL x y lx k).length = lx.length := by
 unfold mvL
 rw [List.length_append, List.length_map, List.length_take, List.length_drop]
 omega
theorem mvL_at {x y : ByteArray} {lx : List PX} {k : Nat} (hk : k < lx.length) : (mvL x y lx k)[k]? = lx[k]? := by
 unfold mvL
 rw [List.getElem?_append_right (by rw [List.length_map, List.length_take]; omega), List.length_map, List.length_take, Nat.min_eq_left (by omega), Nat.sub_self, List.getElem?_drop, Nat.add_zero]
theorem mvL_step {x y : ByteArray} {lx : List PX} {k : Nat} {z : PX} (hz : lx[k]? = some z) : mvL x y lx (k + 1) = (mvL x y lx k).set k (mvX x y z) := by
 have hk := (List.getElem?_eq_some_iff.1 hz).1
 unfold mvL
 have hl : ((lx.take k).map (mvX x y)).length = k := by rw [List.length_map, List.length_take]; omega
 rw [take_snoc hz, List.map_append, List.set_append_right _ _ (by omega), hl, Nat.sub_self, List.drop_eq_getElem_cons hk, List.set_cons_zero, List.append_assoc]
 rfl
theorem mvL_keep {x y : ByteArray} {lx : List PX} {k : Nat} {z : PX} (hz : lx[k]? = some z) (he : eqS z.1.name x = false) : mvL x y lx (k + 1) = mvL x y lx k := by
 rw [mvL_step hz, show mvX x y z = z by unfold mvX; rw [if_neg (by rw [he]; decide)]]
 have hk := (List.getElem?_eq_some_iff.1 hz).1
 have h9 := (mvL_at (x := x) (y := y) hk).trans hz
 apply List.ext_getElem?
 intro i
 by_cases e : k = i
 · subst e; rw [List.getElem?_set_self (by rw [mvL_len (by omega)]; exact hk), h9]
 · rw [List.getElem?_set_ne e]
theorem mvL_mem {x y : ByteArray} {lx : List PX} {k : Nat} {z : PX} (h : z ∈ mvL x y lx k) : ∃ q ∈ lx, z = q ∨ z = ({ q.1 with node := y }, q.2) := by
 unfold mvL at h
 rcases List.mem_append.1 h with h | h
 · obtain ⟨q, hq, rfl⟩ := List.mem_map.1 h
   refine ⟨q, List.mem_of_mem_take hq, ?_⟩
   unfold mvX
   split
   · exact .inr rfl
   · exact .inl rfl
 · exact ⟨z, List.mem_of_mem_drop h, .inl rfl⟩
theorem mvL_all {x y : ByteArray} {lx : List PX} {k : Nat} (hk : lx.length ≤ k) : (mvL x y lx k).map (fun z => z.1) = rmoveP x y (lx.map fun z => z.1) := by
 unfold mvL rmoveP
 rw [List.take_of_length_le hk, List.drop_of_length_le hk, List.append_nil, List.map_map, List.map_map]
 refine List.map_congr_left fun z _ => ?_
 show (mvX x y z).1 = if eqS z.1.name x = true then _ else _
 unfold mvX
 split <;> rfl
set_option maxRecDepth 100000 in
set_option maxHeartbeats 12800000 in
theorem rmoveStR {v : Value} {s : Clu} {w : World} (h : CluR w v s) (x y : ByteArray) (hy : y.size ≤ maxLen) (hl : s.pods.length ≤ 100000) : Calls Tryz.prog 28 #[v, .string x, .string y] w (TellsS (rmoveSt s x y) w) := by
 have h0 := h
 obtain ⟨v1, v2, v3, rfl, ⟨a, cap, rfl, -, -, -⟩, ⟨b, cp, rfl, -, -, -⟩, ⟨d, cb, rfl, -, -, -⟩⟩ := h0
 obtain ⟨len, hl1⟩ : ∃ q, s.nodes.length = q := ⟨_, rfl⟩
 obtain ⟨m, hl2⟩ : ∃ q, s.pods.length = q := ⟨_, rfl⟩
 obtain ⟨n, hl3⟩ : ∃ q, s.buds.length = q := ⟨_, rfl⟩
 rw [hl1, hl2, hl3] at h ⊢
 rw [hl2] at hl
 clear hl1 hl2 hl3
 obtain ⟨Z, hZ⟩ : ∃ Z, (w.alloc (.cells #[.slice a len cap, .slice b m cp, .slice d n cb] 35)).alloc (.cells #[.slice none 0 0, .slice none 0 0, .slice none 0 0] 35) = Z := ⟨_, rfl⟩
 have hkz : Kept w Z := by rw [← hZ]; exact kept_two _ _ _
 have HQ := lH (show CellsN w.heap.size [.slice a len cap, .slice b m cp, .slice d n cb] Z from freshN w (.slice a len cap) [.slice b m cp, .slice d n cb] 35 Z (by rw [← hZ]; exact kept_alloc _ _))
 have HH := lH (show CellsN (w.heap.size + 1) [.slice none 0 0, .slice none 0 0, .slice none 0 0] Z by
  have dd := freshN (w.alloc (.cells #[.slice a len cap, .slice b m cp, .slice d n cb] 35)) (.slice none 0 0) [.slice none 0 0, .slice none 0 0] 35 Z (by rw [hZ]; exact Kept.refl _)
  rw [World.size_alloc] at dd
  exact dd)
 have HSL := lH (show ∀ W, Kept Z W → AllSl W (w.heap.size + 1) from fun W k => by
  have hh : Z.heap[w.heap.size + 1]? = some (.cells #[.slice none 0 0, .slice none 0 0, .slice none 0 0] 35) := by
   have := (w.alloc (.cells #[.slice a len cap, .slice b m cp, .slice d n cb] 35)).alloc_heap_new (.cells #[.slice none 0 0, .slice none 0 0, .slice none 0 0] 35)
   rw [World.size_alloc, hZ] at this
   exact this
  exact all_sl ((k.block _ (Array.getElem?_eq_some_iff.1 hh).1).trans hh))
 have HV := lH (h.kept hkz)
 have HKZ := lH hkz
 clear h hkz
 have HYS := lH hy
 obtain ⟨lx, hlx, hrow, hat4⟩ := pods_px HV.out.podsAt
 have HRX := lH hrow
 have HLX := lH hlx
 have HAT := lH hat4
 have hlen : lx.length = m := hrow.1
 have HLEN := lH hlen
 have hmm := hrow.2.1
 unfold maxLen at hmm
 clear hrow hlx hat4 hlen
 have cq0 := (HQ.out.kept (Kept.refl _)).at_ 0 _ rfl
 have cq1 := (HQ.out.kept (Kept.refl _)).at_ 1 _ rfl
 have cq2 := (HQ.out.kept (Kept.refl _)).at_ 2 _ rfl
 have ca1 := (HQ.out.kept (kept_alloc Z (.cells #[] 69))).at_ 1 _ rfl
 have HRC := lH (rowCells_length PodLay0 lx)
 go_enter Tryz.func28, Tryz.ntmps28
 go_upto_region 1 with fail
 try rw [hZ]
 clear hZ
 go_wp2_with (at_builtin; refine wpList_app_own kindRP _ rfl (.tmp 9) (.tmp 11) rfl Z.heap.size (by rw [World.size_alloc]; omega) Z.heap.size 0 0 [] rfl (own_empty Z Z.heap.size 11 _ (Nat.le_refl _)) _ m (rowCells PodLay0 lx) rfl (by rw [HRC.out, HLEN.out]; rfl) (rowCells_one _ _) (RowAt.src (HRX.out.kept (kept_alloc _ _))) (by unfold maxLen; omega) (by omega) ?_; intro g1 r1 W1 ho1 hd1 hg1; simp only [Nat.zero_add, List.nil_append] at ho1 ⊢)
 have HO1 := lH (show Own PodLay0 69 W1 Z.heap.size (.slice (some ⟨g1, 0, none⟩) m r1) lx from ⟨by rw [HLEN.out]; exact ho1, fun _ _ => trivial⟩)
 have K1 := lH (show Kept Z W1 from Below.trans (kept_alloc Z _) hd1)
 clear ho1 hd1 hg1 ca1 cq0 cq1 cq2
 go_wp2
 go_loopw [8] (fun i wr => ∃ k : Nat, k ≤ m ∧ i = .int .i64 k ∧ Own PodLay0 69 wr Z.heap.size (.slice (some ⟨g1, 0, none⟩) m r1) (mvL x y lx k) ∧ Kept Z wr) (fun i _ => m - (intOf i).toNat)
 case atStart => exact ⟨0, Nat.zero_le _, rfl, HO1.out, K1.out⟩
 case round =>
  obtain ⟨k, hk, rfl, ho, hK⟩ := hrel
  have HO := lH ho
  have HK := lH hK
  by_cases hlt : k < m
  · have hkk : (k : Int) < (m : Int) := by omega
    obtain ⟨z, hz⟩ : ∃ z, lx[k]? = some z := ⟨_, List.getElem?_eq_getElem (by rw [HLEN.out]; exact hlt)⟩
    have HZZ := lH hz
    have hz9 : (mvL x y lx k)[k]? = some z := (mvL_at (by rw [HLEN.out]; exact hlt)).trans hz
    have HZ9 := lH hz9
    obtain ⟨nm, hnm⟩ : ∃ q, z.1.name = q := ⟨_, rfl⟩
    have p0 : wr.cell? ⟨g1, k * 11, none⟩ = some (.string nm) := by rw [← hnm]; exact ho.cell_at hz9 (j := 0) rfl
    have p9 : wr.cell? ⟨g1, k * 11 + 9, none⟩ = some (.string z.1.node) := ho.cell_at hz9 (j := 9) rfl
    have x9 : wr.frozen? ⟨g1, k * 11 + 9, none⟩ = false := ho.frozen_at _
    obtain ⟨e1, he1⟩ : ∃ e, eqS nm x = e := ⟨_, rfl⟩
    have he1' : (nm.toList == x.toList) = e1 := he1
    have HE := lH (show eqS z.1.name x = e1 by rw [hnm]; exact he1)
    clear hz hz9 hK ho he1 hnm
    cases e1 with
    | false =>
     have HX := lH (show Own PodLay0 69 wr Z.heap.size (.slice (some ⟨g1, 0, none⟩) m r1) (mvL x y lx (k + 1)) by rw [mvL_keep HZZ.out HE.out]; exact HO.out)
     go_wp2
     go_roundw
     case rel => exact ⟨k + 1, by omega, by go_num, HX.out, HK.out⟩
     case measure => simp [intOf]; omega
    | true =>
     have HX := lH (show Own PodLay0 69 (wr.setCell ⟨g1, k * 11 + 9, none⟩ (.string y)) Z.heap.size (.slice (some ⟨g1, 0, none⟩) m r1) (mvL x y lx (k + 1)) by
      have h9 := HO.out.node_at (y := y) HZ9.out
      rw [mvL_step HZZ.out, show mvX x y z = ({ z.1 with node := y }, z.2) by unfold mvX; rw [if_pos HE.out]]
      exact h9)
     have HK2 := lH (show Kept Z (wr.setCell ⟨g1, k * 11 + 9, none⟩ (.string y)) from HK.out.setCell (p := ⟨g1, k * 11 + 9, none⟩) ((own_lt HO.out g1 rfl).1) _)
     go_wp2
     go_roundw
     case rel => exact ⟨k + 1, by omega, by go_num, HX.out, HK2.out⟩
     case measure => simp [intOf]; omega
  · have hkk : ¬ (k : Int) < (m : Int) := by omega
    have HPR := lH (show PodsR wr (.slice (some ⟨g1, 0, none⟩) m r1) (rmoveP x y s.pods) by
     have h9 := pods_own ho (fun z hz => by
      obtain ⟨q, hq, e | e⟩ := mvL_mem hz
      · rw [e]; exact PodAt.kept (HAT.out q hq) hK
      · have h8 := PodAt.kept (HAT.out q hq) hK
        rw [e]
        exact ⟨h8.name, h8.owner, h8.key, HYS.out, h8.prio, h8.most, h8.need, h8.labels, h8.sel, h8.tols⟩)
     rw [mvL_all (by rw [HLEN.out]; omega), HLX.out] at h9
     exact h9)
    clear ho hK
    have cq0 := (HQ.out.kept HK.out).at_ 0 _ rfl
    have cq1 := (HQ.out.kept HK.out).at_ 1 _ rfl
    have cq2 := (HQ.out.kept HK.out).at_ 2 _ rfl
    go_wp2_with fail
    refine (rwithR (HV.out.kept HK.out) HPR.out).mono ?_
    rintro e w9 ⟨y9, rfl, hy, kk⟩
    have hy0 := hy
    obtain ⟨_, _, _, rfl, ⟨g1, r1, rfl, -, -, -⟩, ⟨g2, r2, rfl, -, -, -⟩, ⟨g3, r3, rfl, -, -, -⟩⟩ := hy0
    have K9 := lH (HK.out.trans kk)
    obtain ⟨t1, ht1⟩ : ∃ q, ({ s with pods := rmoveP x y s.pods } : Clu).nodes.length = q := ⟨_, rfl⟩
    rw [ht1] at hy
    try rw [ht1]
    clear ht1
    obtain ⟨t2, ht2⟩ : ∃ q, ({ s with pods := rmoveP x y s.pods } : Clu).pods.length = q := ⟨_, rfl⟩
    rw [ht2] at hy
    try rw [ht2]
    clear ht2
    obtain ⟨t3, ht3⟩ : ∃ q, ({ s with pods := rmoveP x y s.pods } : Clu).buds.length = q := ⟨_, rfl⟩
    rw [ht3] at hy
    try rw [ht3]
    clear ht3
    have HY := lH hy
    clear hy kk cq0 cq1 cq2
    have H9 := lH (HH.out.kept K9.out)
    have z0 := H9.out.at_ 0 _ rfl
    have z1 := H9.out.at_ 1 _ rfl
    have z2 := H9.out.at_ 2 _ rfl
    have f0 := H9.out.free 0
    have f1 := H9.out.free 1
    have f2 := H9.out.free 2
    have PP := lH (putN (vs := [.slice g1 t1 r1, .slice g2 t2 r2, .slice g3 t3 r3]) H9.out rfl)
    go_wp2
    obtain ⟨WE, hWE⟩ : ∃ V, w9.setCells (w.heap.size + 1) 0 [.slice g1 t1 r1, .slice g2 t2 r2, .slice g3 t3 r3] = V := ⟨_, rfl⟩
    have hWE2 : (((w9.setCell ⟨(w.heap.size + 1), 0, none⟩ (.slice g1 t1 r1)).setCell ⟨(w.heap.size + 1), 1, none⟩ (.slice g2 t2 r2)).setCell ⟨(w.heap.size + 1), 2, none⟩ (.slice g3 t3 r3)) = WE := hWE
    rw [hWE] at PP
    try rw [hWE2]
    clear hWE hWE2
    obtain ⟨PC, hsz, hbl, hkp⟩ := PP.out
    refine bodyPost_ret (by simp [results, Tryz.results28, go_sem, PC.at_ 0 _ rfl, PC.at_ 1 _ rfl, PC.at_ 2 _ rfl]; try rfl) rfl ?_
    exact ⟨_, rfl, clu_pastS hsz hbl (HSL.out _ K9.out) HY.out, hkp _ _ (Nat.le_succ _) (HKZ.out.trans K9.out)⟩
end Go.Proofs.YtfpgekjhcfoohaaGreat
