/- Clusters: the reference's Put. -/
import Derived.Test.YtfpgekjhcfoohaaGreatShort
import Derived.Test.YtfpgekjhcfoohaaGreatStRefWith
import Derived.Deep.RegionHeld3
set_option linter.unusedVariables false
namespace Go.Proofs.YtfpgekjhcfoohaaGreat
open Go.RowKit
theorem src_none {W : World} {X : Option Addr} {c : Nat} : AppSrc W (.slice X 0 c) 0 [] := by
 cases X with
 | none => exact .inr ⟨c, rfl, rfl⟩
 | some ad => exact .inl ⟨ad, c, rfl, fun j u hu => by simp at hu⟩
theorem src_from {W : World} {b off m cp k : Nat} {lx : List PX} (h : RowAt PodLay0 W (some ⟨b, off, none⟩) m lx) (hk : k ≤ m) (hc : m ≤ cp) :
 AppSrc W (.slice (if cp = k then some ⟨b, off, none⟩ else some ⟨b, off + k * 11, none⟩) (m - k) (cp - k)) (m - k) (rowCells PodLay0 (lx.drop k)) := by
 have hl := h.1
 by_cases z : cp = k
 · rw [if_pos z]
   have hd : lx.drop k = [] := List.eq_nil_of_length_eq_zero (by rw [List.length_drop]; omega)
   rw [hd]
   exact .inl ⟨_, _, rfl, fun j u hu => by simp [rowCells] at hu⟩
 · rw [if_neg z]
   have := h.postP (k := k) (by omega)
   rw [hl] at this
   exact RowAt.src this
theorem put_row {W : World} {B g n c k : Nat} {T : TypeId} {lx ly : List PX} (h : W.ownsRow B T 11 (.slice (some ⟨g, 0, none⟩) n c) n (rowCells PodLay0 ly ++ rowCells PodLay0 (lx.drop k))) (hn : ly.length + (lx.drop k).length = n) : Own PodLay0 T W B (.slice (some ⟨g, 0, none⟩) n c) (ly ++ lx.drop k) := by
 refine ⟨?_, fun _ _ => trivial⟩
 rw [List.length_append, hn, rowCells_append]
 exact h
set_option maxRecDepth 100000 in
set_option maxHeartbeats 25600000 in
theorem rputStR {v u : Value} {s : Clu} {p : Pd} {w : World} (h : CluR w v s) (g : PodR w u p) (hl : s.pods.length ≤ 100000) : Calls Tryz.prog 25 #[v, u] w (TellsS (rputSt s p) w) := by
 have h0 := h
 obtain ⟨v1, v2, v3, rfl, ⟨a, cap, rfl, -, -, -⟩, ⟨b, cp, rfl, -, -, -⟩, ⟨d, cb, rfl, -, -, -⟩⟩ := h0
 obtain ⟨len, hl1⟩ : ∃ q, s.nodes.length = q := ⟨_, rfl⟩
 obtain ⟨m, hl2⟩ : ∃ q, s.pods.length = q := ⟨_, rfl⟩
 obtain ⟨n, hl3⟩ : ∃ q, s.buds.length = q := ⟨_, rfl⟩
 rw [hl1, hl2, hl3] at h ⊢
 rw [hl2] at hl
 clear hl1 hl2 hl3
 obtain ⟨_, _, _, _, rfl, hatp⟩ := g
 have g0 := hatp
 obtain ⟨pa1, pm1, pc1, pa2, pm2, pc2, pa3, pm3, pc3, pa4, pm4, pc4, rfl, rfl, rfl, rfl⟩ := g0.spelt
 clear g0
 unfold PodV
 obtain ⟨Z, hZ⟩ : ∃ Z, ((w.alloc (.cells #[.slice a len cap, .slice b m cp, .slice d n cb] 35)).alloc (.cells #[.string p.name, .string p.owner, .int .i64 p.prio, .slice pa1 pm1 pc1, .slice pa2 pm2 pc2, .slice pa3 pm3 pc3, .slice pa4 pm4 pc4, .string p.key, .int .i64 p.most, .string p.node, .bool p.hold] 69)).alloc (.cells #[.slice none 0 0, .slice none 0 0, .slice none 0 0] 35) = Z := ⟨_, rfl⟩
 have hkz : Kept w Z := by rw [← hZ]; exact (kept_two _ _ _).trans (kept_alloc _ _)
 have HQ := lH (show CellsN w.heap.size [.slice a len cap, .slice b m cp, .slice d n cb] Z from freshN w (.slice a len cap) [.slice b m cp, .slice d n cb] 35 Z (by rw [← hZ]; exact (kept_alloc _ _).trans (kept_alloc _ _)))
 have HQP := lH (show CellsN (w.heap.size + 1) [.string p.name, .string p.owner, .int .i64 p.prio, .slice pa1 pm1 pc1, .slice pa2 pm2 pc2, .slice pa3 pm3 pc3, .slice pa4 pm4 pc4, .string p.key, .int .i64 p.most, .string p.node, .bool p.hold] Z by
  have dd := freshN (w.alloc (.cells #[.slice a len cap, .slice b m cp, .slice d n cb] 35)) (.string p.name) [.string p.owner, .int .i64 p.prio, .slice pa1 pm1 pc1, .slice pa2 pm2 pc2, .slice pa3 pm3 pc3, .slice pa4 pm4 pc4, .string p.key, .int .i64 p.most, .string p.node, .bool p.hold] 69 Z (by rw [← hZ]; exact kept_alloc _ _)
  rw [World.size_alloc] at dd
  exact dd)
 have HH := lH (show CellsN (w.heap.size + 2) [.slice none 0 0, .slice none 0 0, .slice none 0 0] Z by
  have dd := freshN ((w.alloc (.cells #[.slice a len cap, .slice b m cp, .slice d n cb] 35)).alloc (.cells #[.string p.name, .string p.owner, .int .i64 p.prio, .slice pa1 pm1 pc1, .slice pa2 pm2 pc2, .slice pa3 pm3 pc3, .slice pa4 pm4 pc4, .string p.key, .int .i64 p.most, .string p.node, .bool p.hold] 69)) (.slice none 0 0) [.slice none 0 0, .slice none 0 0] 35 Z (by rw [hZ]; exact Kept.refl _)
  rw [World.size_alloc, World.size_alloc] at dd
  exact dd)
 have HSL := lH (show ∀ W, Kept Z W → AllSl W (w.heap.size + 2) from fun W k => by
  have hh : Z.heap[w.heap.size + 2]? = some (.cells #[.slice none 0 0, .slice none 0 0, .slice none 0 0] 35) := by
   have := ((w.alloc (.cells #[.slice a len cap, .slice b m cp, .slice d n cb] 35)).alloc (.cells #[.string p.name, .string p.owner, .int .i64 p.prio, .slice pa1 pm1 pc1, .slice pa2 pm2 pc2, .slice pa3 pm3 pc3, .slice pa4 pm4 pc4, .string p.key, .int .i64 p.most, .string p.node, .bool p.hold] 69)).alloc_heap_new (.cells #[.slice none 0 0, .slice none 0 0, .slice none 0 0] 35)
   rw [World.size_alloc, World.size_alloc, hZ] at this
   exact this
  exact all_sl ((k.block _ (Array.getElem?_eq_some_iff.1 hh).1).trans hh))
 have HV := lH (h.kept hkz)
 have HPT := lH (PodAt.kept hatp hkz)
 have HKZ := lH hkz
 clear hatp
 have HCAP := lH (show m ≤ cp by
  have hp : PodsR w (.slice b m cp) s.pods := by
   obtain ⟨_, _, _, e, g9⟩ := h
   cases e
   exact g9.pods
  obtain ⟨_, _, e, h1, -, h3⟩ := hp
  cases e
  exact h1)
 clear h hkz
 obtain ⟨lx, hlx, hrow, hat4⟩ := pods_px HV.out.podsAt
 have HRX := lH hrow
 have HLX := lH hlx
 have HAT := lH hat4
 have hlen : lx.length = m := hrow.1
 have HLEN := lH hlen
 have hmm := hrow.2.1
 unfold maxLen at hmm
 clear hrow hlx hat4 hlen
 have HF3 := lH (show ∀ W, Kept Z W → W.cell? ⟨w.heap.size, 0, none⟩ = some (.slice a len cap) ∧ W.cell? ⟨w.heap.size, 1, none⟩ = some (.slice b m cp) ∧ W.cell? ⟨w.heap.size, 2, none⟩ = some (.slice d n cb) from fun W k => ⟨(HQ.out.kept k).at_ 0 _ rfl, (HQ.out.kept k).at_ 1 _ rfl, (HQ.out.kept k).at_ 2 _ rfl⟩)
 have HF4 := lH (show ∀ W, Kept Z W → W.cell? ⟨w.heap.size, 1, none⟩ = some (.slice b m cp) ∧ W.cell? ⟨w.heap.size + 1, 0, none⟩ = some (.string p.name) ∧ W.cell? ⟨w.heap.size + 1, 1, none⟩ = some (.string p.owner) ∧ W.cell? ⟨w.heap.size + 1, 2, none⟩ = some (.int .i64 p.prio) ∧ W.cell? ⟨w.heap.size + 1, 3, none⟩ = some (.slice pa1 pm1 pc1) ∧ W.cell? ⟨w.heap.size + 1, 4, none⟩ = some (.slice pa2 pm2 pc2) ∧ W.cell? ⟨w.heap.size + 1, 5, none⟩ = some (.slice pa3 pm3 pc3) ∧ W.cell? ⟨w.heap.size + 1, 6, none⟩ = some (.slice pa4 pm4 pc4) ∧ W.cell? ⟨w.heap.size + 1, 7, none⟩ = some (.string p.key) ∧ W.cell? ⟨w.heap.size + 1, 8, none⟩ = some (.int .i64 p.most) ∧ W.cell? ⟨w.heap.size + 1, 9, none⟩ = some (.string p.node) ∧ W.cell? ⟨w.heap.size + 1, 10, none⟩ = some (.bool p.hold) from fun W k => ⟨(HQ.out.kept k).at_ 1 _ rfl, (HQP.out.kept k).at_ 0 _ rfl, (HQP.out.kept k).at_ 1 _ rfl, (HQP.out.kept k).at_ 2 _ rfl, (HQP.out.kept k).at_ 3 _ rfl, (HQP.out.kept k).at_ 4 _ rfl, (HQP.out.kept k).at_ 5 _ rfl, (HQP.out.kept k).at_ 6 _ rfl, (HQP.out.kept k).at_ 7 _ rfl, (HQP.out.kept k).at_ 8 _ rfl, (HQP.out.kept k).at_ 9 _ rfl, (HQP.out.kept k).at_ 10 _ rfl⟩)
 have HF5 := lH (show ∀ U W : World, (∀ b, b ≠ w.heap.size + 2 → U.heap[b]? = W.heap[b]?) → Kept Z W → U.cell? ⟨w.heap.size, 0, none⟩ = some (.slice a len cap) ∧ U.cell? ⟨w.heap.size, 1, none⟩ = some (.slice b m cp) ∧ U.cell? ⟨w.heap.size, 2, none⟩ = some (.slice d n cb) from fun U W e k => by
  have c := (HQ.out.kept k).block (e _ (by omega))
  exact ⟨c.at_ 0 _ rfl, c.at_ 1 _ rfl, c.at_ 2 _ rfl⟩)
 obtain ⟨K0, hK0⟩ : ∃ q, lowP p.name s.pods = q := ⟨_, rfl⟩
 obtain ⟨KH, hKH⟩ : ∃ q, hitP p.name s.pods K0 = q := ⟨_, rfl⟩
 have HK0 := lH hK0
 have HKH := lH hKH
 have hk0m : K0 ≤ m := by
  have := lowP_le p.name s.pods
  have e := congrArg List.length HLX.out
  rw [List.length_map, HLEN.out] at e
  omega
 have HPL := lH (show s.pods.length = m by have e := congrArg List.length HLX.out; rw [List.length_map, HLEN.out] at e; exact e.symm)
 clear hK0 hKH
 go_enter Tryz.func25, Tryz.ntmps25
 go_upto_region 1 with fail
 try rw [hZ]
 clear hZ
 go_wp2
 go_loopw [5] (fun i wr => ∃ k : Nat, k ≤ K0 ∧ i = .int .i64 k ∧ Kept Z wr) (fun i _ => m - (intOf i).toNat)
 case atStart => exact ⟨0, Nat.zero_le _, rfl, Kept.refl _⟩
 case round =>
  obtain ⟨k, hk, rfl, hK⟩ := hrel
  have HK := lH hK
  have cq0 := (HQ.out.kept hK).at_ 0 _ rfl
  have cq1 := (HQ.out.kept hK).at_ 1 _ rfl
  have cq2 := (HQ.out.kept hK).at_ 2 _ rfl
  have pq0 := (HQP.out.kept hK).at_ 0 _ rfl
  have pq1 := (HQP.out.kept hK).at_ 1 _ rfl
  have pq2 := (HQP.out.kept hK).at_ 2 _ rfl
  have pq3 := (HQP.out.kept hK).at_ 3 _ rfl
  have pq4 := (HQP.out.kept hK).at_ 4 _ rfl
  have pq5 := (HQP.out.kept hK).at_ 5 _ rfl
  have pq6 := (HQP.out.kept hK).at_ 6 _ rfl
  have pq7 := (HQP.out.kept hK).at_ 7 _ rfl
  have pq8 := (HQP.out.kept hK).at_ 8 _ rfl
  have pq9 := (HQP.out.kept hK).at_ 9 _ rfl
  have pq10 := (HQP.out.kept hK).at_ 10 _ rfl
  clear cq0 cq2
  by_cases hlt : k < m
  · have hkk : (k : Int) < (m : Int) := by omega
    have hk0 : ¬ (k : Int) < 0 := by omega
    obtain ⟨b9, off, rfl⟩ := HRX.out.form.resolve_left (by omega)
    obtain ⟨z, hz, hd, hb, -, hc⟩ := HRX.out.cells hlt
    obtain ⟨n9, ⟨a1, m1, c1⟩, ⟨a2, m2, c2⟩, ⟨a3, m3, c3⟩, ⟨a4, m4, c4⟩⟩ := z
    have p0 : Z.cell? ⟨b9, off + k * 11, none⟩ = some (.string n9.name) := hc 0 _ rfl
    have p1 : Z.cell? ⟨b9, off + k * 11 + 1, none⟩ = some (.string n9.owner) := hc 1 _ rfl
    have p2 : Z.cell? ⟨b9, off + k * 11 + 2, none⟩ = some (.int .i64 n9.prio) := hc 2 _ rfl
    have p3 : Z.cell? ⟨b9, off + k * 11 + 3, none⟩ = some (.slice a1 m1 c1) := hc 3 _ rfl
    have p4 : Z.cell? ⟨b9, off + k * 11 + 4, none⟩ = some (.slice a2 m2 c2) := hc 4 _ rfl
    have p5 : Z.cell? ⟨b9, off + k * 11 + 5, none⟩ = some (.slice a3 m3 c3) := hc 5 _ rfl
    have p6 : Z.cell? ⟨b9, off + k * 11 + 6, none⟩ = some (.slice a4 m4 c4) := hc 6 _ rfl
    have p7 : Z.cell? ⟨b9, off + k * 11 + 7, none⟩ = some (.string n9.key) := hc 7 _ rfl
    have p8 : Z.cell? ⟨b9, off + k * 11 + 8, none⟩ = some (.int .i64 n9.most) := hc 8 _ rfl
    have p9 : Z.cell? ⟨b9, off + k * 11 + 9, none⟩ = some (.string n9.node) := hc 9 _ rfl
    have p10 : Z.cell? ⟨b9, off + k * 11 + 10, none⟩ = some (.bool n9.hold) := hc 10 _ rfl
    have HN9 := lH (show s.pods[k]? = some n9 by rw [← HLX.out, List.getElem?_map, hz]; rfl)
    have HP0 := lH p0
    obtain ⟨e1, he1⟩ : ∃ e, ltS n9.name p.name = e := ⟨_, rfl⟩
    have he1' : Op.bytesLess n9.name.toList p.name.toList = e1 := he1
    obtain ⟨e2, he2⟩ : ∃ e, eqS n9.name p.name = e := ⟨_, rfl⟩
    have he2' : (n9.name.toList == p.name.toList) = e2 := he2
    have HE1 := lH he1
    have HE2 := lH he2
    have HST := lH (lowP_step HN9.out (by rw [HK0.out]; exact hk))
    have HF2 := lH (show ∀ W, Kept wr W → W.cell? ⟨w.heap.size, 1, none⟩ = some (.slice (some ⟨b9, off, none⟩) m cp) ∧ W.cell? ⟨w.heap.size + 1, 0, none⟩ = some (.string p.name) ∧ W.cell? ⟨b9, off + k * 11, none⟩ = some (.string n9.name) from fun W kk => ⟨(HF4.out W (HK.out.trans kk)).1, (HF4.out W (HK.out.trans kk)).2.1, cell_later (HK.out.trans kk) HP0.out⟩)
    clear hz hd hb hc he1 he2 hK p0 p1 p2 p3 p4 p5 p6 p7 p8 p9 p10 cq1 pq0 pq1 pq2 pq3 pq4 pq5 pq6 pq7 pq8 pq9 pq10
    go_upto_region 2 with fail
    refine wp_region_held_drew (S := fun W => W.cell? ⟨w.heap.size, 1, none⟩ = some (.slice (some ⟨b9, off, none⟩) m cp) ∧ W.cell? ⟨w.heap.size + 1, 0, none⟩ = some (.string p.name) ∧ W.cell? ⟨b9, off + k * 11, none⟩ = some (.string n9.name)) (by kernel_rfl) (HF2.out _ (Kept.drew _)) (fun hHeld => ?_)
    refine tkH 0 (v := ?_) (y := Or.inl ⟨by rfl, (by rintro W ⟨o0, o1, o2⟩; go_simp <;> with_reducible rfl)⟩) (h := ?_)
    try simp only [nP]
    refine tkH 1 (v := ?_) (y := Or.inl ⟨by rfl, (by rintro W ⟨o0, o1, o2⟩; go_simp <;> with_reducible rfl)⟩) (h := ?_)
    try simp only [nP]
    refine tkH 2 (v := ?_) (y := Or.inl ⟨by rfl, (by rintro W ⟨o0, o1, o2⟩; go_simp <;> with_reducible rfl)⟩) (h := ?_)
    try simp only [nP]
    refine tkH 3 (v := ?_) (y := Or.inl ⟨by rfl, (by rintro W ⟨o0, o1, o2⟩; go_simp <;> with_reducible rfl)⟩) (h := ?_)
    try simp only [nP]
    refine tkH 4 (v := ?_) (y := Or.inl ⟨by rfl, (by rintro W ⟨o0, o1, o2⟩; go_simp <;> with_reducible rfl)⟩) (h := ?_)
    try simp only [nP]
    refine tkH 5 (v := ?_) (y := Or.inl ⟨by rfl, (by rintro W ⟨o0, o1, o2⟩; go_simp <;> with_reducible rfl)⟩) (h := ?_)
    try simp only [nP]
    refine tkH 6 (v := ?_) (y := Or.inl ⟨by rfl, (by rintro W ⟨o0, o1, o2⟩; go_simp <;> with_reducible rfl)⟩) (h := ?_)
    try simp only [nP]
    refine tkH 7 (v := ?_) (y := Or.inl ⟨by rfl, (by rintro W ⟨o0, o1, o2⟩; go_simp <;> with_reducible rfl)⟩) (h := ?_)
    try simp only [nP]
    refine tkH 8 (v := ?_) (y := Or.inl ⟨by rfl, (by rintro W ⟨o0, o1, o2⟩; go_simp <;> with_reducible rfl)⟩) (h := ?_)
    try simp only [nP]
    refine tkH 9 (v := ?_) (y := Or.inl ⟨by rfl, (by rintro W ⟨o0, o1, o2⟩; go_simp <;> with_reducible rfl)⟩) (h := ?_)
    try simp only [nP]
    refine tkH 10 (v := ?_) (y := Or.inl ⟨by rfl, (by rintro W ⟨o0, o1, o2⟩; go_simp <;> with_reducible rfl)⟩) (h := ?_)
    try simp only [nP]
    refine tkH 11 (v := ?_) (y := Or.inl ⟨by rfl, (by rintro W ⟨o0, o1, o2⟩; go_simp <;> with_reducible rfl)⟩) (h := ?_)
    try simp only [nP]
    refine tkH 12 (v := ?_) (y := Or.inl ⟨by rfl, (by rintro W ⟨o0, o1, o2⟩; go_simp <;> with_reducible rfl)⟩) (h := ?_)
    try simp only [nP]
    refine tkH 13 (v := ?_) (y := Or.inl ⟨by rfl, (by rintro W ⟨o0, o1, o2⟩; go_simp <;> with_reducible rfl)⟩) (h := ?_)
    try simp only [nP]
    refine tkH 14 (v := ?_) (y := Or.inl ⟨by rfl, (by rintro W ⟨o0, o1, o2⟩; go_simp <;> with_reducible rfl)⟩) (h := ?_)
    try simp only [nP]
    refine tkH 15 (v := ?_) (y := Or.inl ⟨by rfl, (by rintro W ⟨o0, o1, o2⟩; go_simp <;> with_reducible rfl)⟩) (h := ?_)
    try simp only [nP]
    refine wpAnyH_done (by kernel_rfl) ?_ _
    cases e1 with
    | true =>
     go_wp2
     go_roundw
     case rel => exact ⟨k + 1, by have := HST.out.1 HE1.out; rw [HK0.out] at this; exact this, by go_num, HK.out.trans (Kept.drew _)⟩
     case measure => simp [intOf]; omega
    | false =>
     obtain rfl : K0 = k := by have := HST.out.2 HE1.out; rw [HK0.out] at this; exact this
     clear HST HF2
     obtain ⟨wb, hwb⟩ : ∃ W, wr.drew = W := ⟨_, rfl⟩
     have HKB := lH (show Kept Z wb by rw [← hwb]; exact (HK.out.trans (Kept.drew _)))
     try rw [hwb]
     clear hwb
     go_upto_region 4 with fail
     go_cut [6] from 25 to 33 (fun s6 wx => ∃ g c, s6 = .slice (some ⟨g, 0, none⟩) (K0 + 1) c ∧ Hid (Own PodLay0 69 wx Z.heap.size (.slice (some ⟨g, 0, none⟩) (K0 + 1) c) (lx.take K0 ++ [(p, (pa1, pm1, pc1), (pa2, pm2, pc2), (pa3, pm3, pc3), (pa4, pm4, pc4))]) ∧ Kept Z wx))
     case first =>
      have J := lH (Kept.drew wb)
      have JK := lH HKB.out
      have HF := lH (fun W (k : Kept wb W) => HF4.out W (JK.out.trans k))
      have hkI : ((K0 : Int)).toNat = K0 := by omega
      have hk0i : (0 : Int) ≤ (K0 : Int) := by omega
      have hkmI : (K0 : Int) ≤ (m : Int) := by omega
      have hkcI : K0 ≤ cp := by have := HCAP.out; omega
      have hkcI2 : (K0 : Int) ≤ (cp : Int) := by omega
      have HBS := lH (show Z.heap.size ≤ wb.heap.size from JK.out.size)
      refine wp_region_held_drew (S := fun W => W.cell? ⟨w.heap.size, 1, none⟩ = some (.slice (some ⟨b9, off, none⟩) m cp) ∧ W.cell? ⟨w.heap.size + 1, 0, none⟩ = some (.string p.name) ∧ W.cell? ⟨w.heap.size + 1, 1, none⟩ = some (.string p.owner) ∧ W.cell? ⟨w.heap.size + 1, 2, none⟩ = some (.int .i64 p.prio) ∧ W.cell? ⟨w.heap.size + 1, 3, none⟩ = some (.slice pa1 pm1 pc1) ∧ W.cell? ⟨w.heap.size + 1, 4, none⟩ = some (.slice pa2 pm2 pc2) ∧ W.cell? ⟨w.heap.size + 1, 5, none⟩ = some (.slice pa3 pm3 pc3) ∧ W.cell? ⟨w.heap.size + 1, 6, none⟩ = some (.slice pa4 pm4 pc4) ∧ W.cell? ⟨w.heap.size + 1, 7, none⟩ = some (.string p.key) ∧ W.cell? ⟨w.heap.size + 1, 8, none⟩ = some (.int .i64 p.most) ∧ W.cell? ⟨w.heap.size + 1, 9, none⟩ = some (.string p.node) ∧ W.cell? ⟨w.heap.size + 1, 10, none⟩ = some (.bool p.hold)) (by kernel_rfl) (HF.out _ J.out) (fun hHeld => ?_)
      obtain ⟨wd, hwd⟩ : ∃ W, wb.drew = W := ⟨_, rfl⟩
      rw [hwd] at J hHeld
      try rw [hwd]
      clear hwd
      refine tkH 1 (v := ?_) (y := Or.inl ⟨by rfl, (by rintro W ⟨o0, o1, o2, o3, o4, o5, o6, o7, o8, o9, o10, o11⟩; go_simp <;> with_reducible rfl)⟩) (h := ?_)
      try simp only [nP]
      refine tkH 2 (v := ?_) (y := Or.inl ⟨by rfl, (by rintro W ⟨o0, o1, o2, o3, o4, o5, o6, o7, o8, o9, o10, o11⟩; go_simp <;> with_reducible rfl)⟩) (h := ?_)
      try simp only [nP]
      refine tkH 3 (v := ?_) (y := Or.inl ⟨by rfl, (by rintro W ⟨o0, o1, o2, o3, o4, o5, o6, o7, o8, o9, o10, o11⟩; go_simp <;> with_reducible rfl)⟩) (h := ?_)
      try simp only [nP]
      refine tkH 4 (v := ?_) (y := Or.inl ⟨by rfl, (by rintro W ⟨o0, o1, o2, o3, o4, o5, o6, o7, o8, o9, o10, o11⟩; go_simp <;> with_reducible rfl)⟩) (h := ?_)
      try simp only [nP]
      refine tkH 6 (v := ?_) (y := Or.inl ⟨by rfl, (by rintro W ⟨o0, o1, o2, o3, o4, o5, o6, o7, o8, o9, o10, o11⟩; go_simp <;> with_reducible rfl)⟩) (h := ?_)
      try simp only [nP]
      refine rdH (rs := [0, 7]) (h := coH (fun K9 hK9 => ?_) (coH (fun K9 hK9 => ?_) AllReadyH.nil))
      · skip
        go_simp
        refine hK9.out _ _ (HF.out _ (J.out.trans (kept_alloc _ _))) (fun hHeld0 => ?_)
        clear hK9 K9
        try simp only [nP]
        obtain ⟨W0, hW0⟩ : ∃ W, wd.alloc (.cells #[] 69) = W := ⟨_, rfl⟩
        have hk0 : Kept wd W0 := by rw [← hW0]; exact kept_alloc _ _
        have HO0 := lH (show W0.ownsRow Z.heap.size 69 11 (.slice (some ⟨wd.heap.size, 0, none⟩) 0 0) 0 [] by rw [← hW0]; exact own_empty _ _ 11 _ (Nat.le_trans HBS.out J.out.size))
        have HG0 := lH (show wd.heap.size < W0.heap.size by rw [← hW0, World.size_alloc]; exact Nat.lt_succ_self _)
        have J := lH (J.out.trans hk0)
        obtain ⟨q0, hq0⟩ : ∃ q, wd.heap.size = q := ⟨_, rfl⟩
        rw [hq0] at HO0 HG0
        try rw [hW0]
        try rw [hq0]
        clear hW0 hk0 hq0
        refine rdH (rs := [5, 7]) (h := coH (fun K9 hK9 => ?_) (coH (fun K9 hK9 => ?_) AllReadyH.nil))
        · skip
          refine step_app_own kindRP _ rfl (.tmp 25) (.tmp 29) rfl Z.heap.size (Nat.le_trans HBS.out J.out.size) q0 0 0 [] rfl HO0.out _ K0 (rowCells PodLay0 (lx.take K0)) rfl ?_ (rowCells_one _ _) (RowAt.src ((HRX.out.low hk0m).kept (JK.out.trans J.out))) (by unfold maxLen; omega) (by omega) ?_
          · rw [rowCells_length, List.length_take, HLEN.out, Nat.min_eq_left hk0m]; rfl
          rintro g5 c5 W1 ho5 hd5 hg5
          simp only [Nat.zero_add, List.nil_append] at ho5 ⊢
          have HO5 := lH (show Own PodLay0 69 W1 Z.heap.size (.slice (some ⟨g5, 0, none⟩) K0 c5) (lx.take K0) from ⟨by rw [List.length_take, HLEN.out, Nat.min_eq_left hk0m]; exact ho5, fun _ _ => trivial⟩)
          have JZ := lH (show Kept Z W1 from Below.trans (JK.out.trans J.out) hd5)
          refine hK9.out _ _ (HF4.out _ JZ.out) (fun hHeld1 => ?_)
          clear hK9 K9 ho5 hd5 hg5
          try simp only [nP]
          refine rdH (rs := [7]) (h := coH (fun K9 hK9 => ?_) AllReadyH.nil)
          go_simp
          refine hK9.out _ _ (HF4.out _ (JZ.out.trans (kept_alloc _ _))) (fun hHeld2 => ?_)
          clear hK9 K9
          try simp only [nP]
          obtain ⟨W2, hW2⟩ : ∃ W, W1.alloc (.cells #[.string p.name, .string p.owner, .int .i64 p.prio, .slice pa1 pm1 pc1, .slice pa2 pm2 pc2, .slice pa3 pm3 pc3, .slice pa4 pm4 pc4, .string p.key, .int .i64 p.most, .string p.node, .bool p.hold] 69) = W := ⟨_, rfl⟩
          have hk2 : Kept W1 W2 := by rw [← hW2]; exact kept_alloc _ _
          have H7 := lH (show W2.heap[W1.heap.size]? = some (.cells #[.string p.name, .string p.owner, .int .i64 p.prio, .slice pa1 pm1 pc1, .slice pa2 pm2 pc2, .slice pa3 pm3 pc3, .slice pa4 pm4 pc4, .string p.key, .int .i64 p.most, .string p.node, .bool p.hold] 69 (0, 0)) by rw [← hW2]; exact World.alloc_heap_new W1 _)
          have HO5 := lH (show Own PodLay0 69 W2 Z.heap.size (.slice (some ⟨g5, 0, none⟩) K0 c5) (lx.take K0) from HO5.out.kept hk2)
          have JZ := lH (JZ.out.trans hk2)
          obtain ⟨q7, hq7⟩ : ∃ q, W1.heap.size = q := ⟨_, rfl⟩
          rw [hq7] at H7
          try rw [hW2]
          try rw [hq7]
          clear hW2 hk2 hq7
          refine rdH (rs := [8]) (h := coH (fun K9 hK9 => ?_) AllReadyH.nil)
          refine step_app_own kindRP _ rfl (.tmp 30) (.tmp 32) rfl Z.heap.size JZ.out.size g5 K0 c5 (rowCells PodLay0 (lx.take K0)) rfl (by have := HO5.out.1; rw [List.length_take, HLEN.out, Nat.min_eq_left hk0m] at this; exact this) _ 1 (PodLay0.cs (p, (pa1, pm1, pc1), (pa2, pm2, pc2), (pa3, pm3, pc3), (pa4, pm4, pc4))) rfl rfl (one_pod0 _) (src_new rfl H7.out) (by unfold maxLen; omega) (by omega) ?_
          rintro g8 c8 W3 ho8 hd8 hg8
          have HO8 := lH (show Own PodLay0 69 W3 Z.heap.size (.slice (some ⟨g8, 0, none⟩) (K0 + 1) c8) (lx.take K0 ++ [(p, (pa1, pm1, pc1), (pa2, pm2, pc2), (pa3, pm3, pc3), (pa4, pm4, pc4))]) from Own.snoc ho8 (by rw [List.length_take, HLEN.out, Nat.min_eq_left hk0m]) (fun _ _ => trivial) trivial)
          have JZ := lH (show Kept Z W3 from Below.trans JZ.out hd8)
          refine hK9.out _ _ (HF4.out _ JZ.out) (fun hHeld3 => ?_)
          clear hK9 K9 ho8 hd8 hg8
          try simp only [nP]
          refine tkH 9 (v := ?_) (y := Or.inl ⟨by rfl, (by rintro W ⟨o0, o1, o2, o3, o4, o5, o6, o7, o8, o9, o10, o11⟩; go_simp <;> with_reducible rfl)⟩) (h := ?_)
          try simp only [nP]
          refine wpAnyH_done (by kernel_rfl) ?_ _
          go_wp2
          go_meet
          case rel => exact ⟨g8, c8, rfl, lH ⟨HO8.out, JZ.out⟩⟩
        · skip
          go_simp
          refine hK9.out _ _ (HF.out _ (J.out.trans (kept_alloc _ _))) (fun hHeld1 => ?_)
          clear hK9 K9
          try simp only [nP]
          obtain ⟨W1, hW1⟩ : ∃ W, W0.alloc (.cells #[.string p.name, .string p.owner, .int .i64 p.prio, .slice pa1 pm1 pc1, .slice pa2 pm2 pc2, .slice pa3 pm3 pc3, .slice pa4 pm4 pc4, .string p.key, .int .i64 p.most, .string p.node, .bool p.hold] 69) = W := ⟨_, rfl⟩
          have hk1 : Kept W0 W1 := by rw [← hW1]; exact kept_alloc _ _
          have H7 := lH (show W1.heap[W0.heap.size]? = some (.cells #[.string p.name, .string p.owner, .int .i64 p.prio, .slice pa1 pm1 pc1, .slice pa2 pm2 pc2, .slice pa3 pm3 pc3, .slice pa4 pm4 pc4, .string p.key, .int .i64 p.most, .string p.node, .bool p.hold] 69 (0, 0)) by rw [← hW1]; exact World.alloc_heap_new W0 _)
          have H7L := lH (show W0.heap.size < W1.heap.size by rw [← hW1, World.size_alloc]; exact Nat.lt_succ_self _)
          have HO0 := lH (show W1.ownsRow Z.heap.size 69 11 (.slice (some ⟨q0, 0, none⟩) 0 0) 0 [] by rw [← hW1]; exact own_alloc HO0.out _)
          have H7N := lH (show W0.heap.size ≠ q0 by have := HG0.out; omega)
          have J := lH (J.out.trans hk1)
          obtain ⟨q7, hq7⟩ : ∃ q, W0.heap.size = q := ⟨_, rfl⟩
          rw [hq7] at H7 H7L H7N
          try rw [hW1]
          try rw [hq7]
          clear hW1 hk1 hq7
          refine rdH (rs := [5]) (h := coH (fun K9 hK9 => ?_) AllReadyH.nil)
          refine step_app_own kindRP _ rfl (.tmp 25) (.tmp 29) rfl Z.heap.size (Nat.le_trans HBS.out J.out.size) q0 0 0 [] rfl HO0.out _ K0 (rowCells PodLay0 (lx.take K0)) rfl ?_ (rowCells_one _ _) (RowAt.src ((HRX.out.low hk0m).kept (JK.out.trans J.out))) (by unfold maxLen; omega) (by omega) ?_
          · rw [rowCells_length, List.length_take, HLEN.out, Nat.min_eq_left hk0m]; rfl
          rintro g5 c5 W2 ho5 hd5 hg5
          simp only [Nat.zero_add, List.nil_append] at ho5 ⊢
          have HO5 := lH (show Own PodLay0 69 W2 Z.heap.size (.slice (some ⟨g5, 0, none⟩) K0 c5) (lx.take K0) from ⟨by rw [List.length_take, HLEN.out, Nat.min_eq_left hk0m]; exact ho5, fun _ _ => trivial⟩)
          have JZ := lH (show Kept Z W2 from Below.trans (JK.out.trans J.out) hd5)
          have H7 := lH ((hg5.block q7 H7L.out (by intro e; exact H7N.out (Option.some.inj e))).trans H7.out)
          have H7L := lH (Nat.lt_of_lt_of_le H7L.out hg5.size)
          refine hK9.out _ _ (HF4.out _ JZ.out) (fun hHeld2 => ?_)
          clear hK9 K9 ho5 hd5 hg5
          try simp only [nP]
          refine rdH (rs := [8]) (h := coH (fun K9 hK9 => ?_) AllReadyH.nil)
          refine step_app_own kindRP _ rfl (.tmp 30) (.tmp 32) rfl Z.heap.size JZ.out.size g5 K0 c5 (rowCells PodLay0 (lx.take K0)) rfl (by have := HO5.out.1; rw [List.length_take, HLEN.out, Nat.min_eq_left hk0m] at this; exact this) _ 1 (PodLay0.cs (p, (pa1, pm1, pc1), (pa2, pm2, pc2), (pa3, pm3, pc3), (pa4, pm4, pc4))) rfl rfl (one_pod0 _) (src_new rfl H7.out) (by unfold maxLen; omega) (by omega) ?_
          rintro g8 c8 W3 ho8 hd8 hg8
          have HO8 := lH (show Own PodLay0 69 W3 Z.heap.size (.slice (some ⟨g8, 0, none⟩) (K0 + 1) c8) (lx.take K0 ++ [(p, (pa1, pm1, pc1), (pa2, pm2, pc2), (pa3, pm3, pc3), (pa4, pm4, pc4))]) from Own.snoc ho8 (by rw [List.length_take, HLEN.out, Nat.min_eq_left hk0m]) (fun _ _ => trivial) trivial)
          have JZ := lH (show Kept Z W3 from Below.trans JZ.out hd8)
          refine hK9.out _ _ (HF4.out _ JZ.out) (fun hHeld3 => ?_)
          clear hK9 K9 ho8 hd8 hg8
          try simp only [nP]
          refine tkH 9 (v := ?_) (y := Or.inl ⟨by rfl, (by rintro W ⟨o0, o1, o2, o3, o4, o5, o6, o7, o8, o9, o10, o11⟩; go_simp <;> with_reducible rfl)⟩) (h := ?_)
          try simp only [nP]
          refine wpAnyH_done (by kernel_rfl) ?_ _
          go_wp2
          go_meet
          case rel => exact ⟨g8, c8, rfl, lH ⟨HO8.out, JZ.out⟩⟩
      · skip
        go_simp
        refine hK9.out _ _ (HF.out _ (J.out.trans (kept_alloc _ _))) (fun hHeld0 => ?_)
        clear hK9 K9
        try simp only [nP]
        obtain ⟨W0, hW0⟩ : ∃ W, wd.alloc (.cells #[.string p.name, .string p.owner, .int .i64 p.prio, .slice pa1 pm1 pc1, .slice pa2 pm2 pc2, .slice pa3 pm3 pc3, .slice pa4 pm4 pc4, .string p.key, .int .i64 p.most, .string p.node, .bool p.hold] 69) = W := ⟨_, rfl⟩
        have hk0 : Kept wd W0 := by rw [← hW0]; exact kept_alloc _ _
        have H7 := lH (show W0.heap[wd.heap.size]? = some (.cells #[.string p.name, .string p.owner, .int .i64 p.prio, .slice pa1 pm1 pc1, .slice pa2 pm2 pc2, .slice pa3 pm3 pc3, .slice pa4 pm4 pc4, .string p.key, .int .i64 p.most, .string p.node, .bool p.hold] 69 (0, 0)) by rw [← hW0]; exact World.alloc_heap_new wd _)
        have H7L := lH (show wd.heap.size < W0.heap.size by rw [← hW0, World.size_alloc]; exact Nat.lt_succ_self _)
        have J := lH (J.out.trans hk0)
        obtain ⟨q7, hq7⟩ : ∃ q, wd.heap.size = q := ⟨_, rfl⟩
        rw [hq7] at H7 H7L
        try rw [hW0]
        try rw [hq7]
        clear hW0 hk0 hq7
        refine rdH (rs := [0]) (h := coH (fun K9 hK9 => ?_) AllReadyH.nil)
        go_simp
        refine hK9.out _ _ (HF.out _ (J.out.trans (kept_alloc _ _))) (fun hHeld1 => ?_)
        clear hK9 K9
        try simp only [nP]
        obtain ⟨W1, hW1⟩ : ∃ W, W0.alloc (.cells #[] 69) = W := ⟨_, rfl⟩
        have hk1 : Kept W0 W1 := by rw [← hW1]; exact kept_alloc _ _
        have HO0 := lH (show W1.ownsRow Z.heap.size 69 11 (.slice (some ⟨W0.heap.size, 0, none⟩) 0 0) 0 [] by rw [← hW1]; exact own_empty _ _ 11 _ (Nat.le_trans HBS.out J.out.size))
        have HG0 := lH (show W0.heap.size < W1.heap.size by rw [← hW1, World.size_alloc]; exact Nat.lt_succ_self _)
        have H7 := lH ((hk1.block _ H7L.out).trans H7.out)
        have H7N := lH (show q7 ≠ W0.heap.size by have := H7L.out; omega)
        have H7L := lH (Nat.lt_of_lt_of_le H7L.out hk1.size)
        have J := lH (J.out.trans hk1)
        obtain ⟨q0, hq0⟩ : ∃ q, W0.heap.size = q := ⟨_, rfl⟩
        rw [hq0] at HO0 HG0 H7N
        try rw [hW1]
        try rw [hq0]
        clear hW1 hk1 hq0
        refine rdH (rs := [5]) (h := coH (fun K9 hK9 => ?_) AllReadyH.nil)
        refine step_app_own kindRP _ rfl (.tmp 25) (.tmp 29) rfl Z.heap.size (Nat.le_trans HBS.out J.out.size) q0 0 0 [] rfl HO0.out _ K0 (rowCells PodLay0 (lx.take K0)) rfl ?_ (rowCells_one _ _) (RowAt.src ((HRX.out.low hk0m).kept (JK.out.trans J.out))) (by unfold maxLen; omega) (by omega) ?_
        · rw [rowCells_length, List.length_take, HLEN.out, Nat.min_eq_left hk0m]; rfl
        rintro g5 c5 W2 ho5 hd5 hg5
        simp only [Nat.zero_add, List.nil_append] at ho5 ⊢
        have HO5 := lH (show Own PodLay0 69 W2 Z.heap.size (.slice (some ⟨g5, 0, none⟩) K0 c5) (lx.take K0) from ⟨by rw [List.length_take, HLEN.out, Nat.min_eq_left hk0m]; exact ho5, fun _ _ => trivial⟩)
        have JZ := lH (show Kept Z W2 from Below.trans (JK.out.trans J.out) hd5)
        have H7 := lH ((hg5.block q7 H7L.out (by intro e; exact H7N.out (Option.some.inj e))).trans H7.out)
        have H7L := lH (Nat.lt_of_lt_of_le H7L.out hg5.size)
        refine hK9.out _ _ (HF4.out _ JZ.out) (fun hHeld2 => ?_)
        clear hK9 K9 ho5 hd5 hg5
        try simp only [nP]
        refine rdH (rs := [8]) (h := coH (fun K9 hK9 => ?_) AllReadyH.nil)
        refine step_app_own kindRP _ rfl (.tmp 30) (.tmp 32) rfl Z.heap.size JZ.out.size g5 K0 c5 (rowCells PodLay0 (lx.take K0)) rfl (by have := HO5.out.1; rw [List.length_take, HLEN.out, Nat.min_eq_left hk0m] at this; exact this) _ 1 (PodLay0.cs (p, (pa1, pm1, pc1), (pa2, pm2, pc2), (pa3, pm3, pc3), (pa4, pm4, pc4))) rfl rfl (one_pod0 _) (src_new rfl H7.out) (by unfold maxLen; omega) (by omega) ?_
        rintro g8 c8 W3 ho8 hd8 hg8
        have HO8 := lH (show Own PodLay0 69 W3 Z.heap.size (.slice (some ⟨g8, 0, none⟩) (K0 + 1) c8) (lx.take K0 ++ [(p, (pa1, pm1, pc1), (pa2, pm2, pc2), (pa3, pm3, pc3), (pa4, pm4, pc4))]) from Own.snoc ho8 (by rw [List.length_take, HLEN.out, Nat.min_eq_left hk0m]) (fun _ _ => trivial) trivial)
        have JZ := lH (show Kept Z W3 from Below.trans JZ.out hd8)
        refine hK9.out _ _ (HF4.out _ JZ.out) (fun hHeld3 => ?_)
        clear hK9 K9 ho8 hd8 hg8
        try simp only [nP]
        refine tkH 9 (v := ?_) (y := Or.inl ⟨by rfl, (by rintro W ⟨o0, o1, o2, o3, o4, o5, o6, o7, o8, o9, o10, o11⟩; go_simp <;> with_reducible rfl)⟩) (h := ?_)
        try simp only [nP]
        refine wpAnyH_done (by kernel_rfl) ?_ _
        go_wp2
        go_meet
        case rel => exact ⟨g8, c8, rfl, lH ⟨HO8.out, JZ.out⟩⟩
     case rest =>
      obtain ⟨g, c6, rfl, hcut⟩ := hcut
      have HR6 := lH hcut.out.1
      have HK6 := lH hcut.out.2
      clear hcut
      have hkw0 : (0 : Int) ≤ (K0 : Int) := by omega
      go_upto_region 5 with fail
      have hk0 : ¬ (K0 : Int) < 0 := by omega
      have HF := lH (show ∀ W, Kept wc W → W.cell? ⟨w.heap.size, 1, none⟩ = some (.slice (some ⟨b9, off, none⟩) m cp) ∧ W.cell? ⟨w.heap.size + 1, 0, none⟩ = some (.string p.name) ∧ W.cell? ⟨b9, off + K0 * 11, none⟩ = some (.string n9.name) from fun W kk => ⟨(HF4.out W (HK6.out.trans kk)).1, (HF4.out W (HK6.out.trans kk)).2.1, cell_later (HK6.out.trans kk) HP0.out⟩)
      refine wp_region_held_drew (S := fun W => W.cell? ⟨w.heap.size, 1, none⟩ = some (.slice (some ⟨b9, off, none⟩) m cp) ∧ W.cell? ⟨w.heap.size + 1, 0, none⟩ = some (.string p.name) ∧ W.cell? ⟨b9, off + K0 * 11, none⟩ = some (.string n9.name)) (by kernel_rfl) (HF.out _ (Kept.drew _)) (fun hHeld => ?_)
      refine tkH 0 (v := ?_) (y := Or.inl ⟨by rfl, (by rintro W ⟨o0, o1, o2⟩; go_simp <;> with_reducible rfl)⟩) (h := ?_)
      try simp only [nP]
      refine tkH 1 (v := ?_) (y := Or.inl ⟨by rfl, (by rintro W ⟨o0, o1, o2⟩; go_simp <;> with_reducible rfl)⟩) (h := ?_)
      try simp only [nP]
      refine tkH 2 (v := ?_) (y := Or.inl ⟨by rfl, (by rintro W ⟨o0, o1, o2⟩; go_simp <;> with_reducible rfl)⟩) (h := ?_)
      try simp only [nP]
      refine tkH 3 (v := ?_) (y := Or.inl ⟨by rfl, (by rintro W ⟨o0, o1, o2⟩; go_simp <;> with_reducible rfl)⟩) (h := ?_)
      try simp only [nP]
      refine tkH 4 (v := ?_) (y := Or.inl ⟨by rfl, (by rintro W ⟨o0, o1, o2⟩; go_simp <;> with_reducible rfl)⟩) (h := ?_)
      try simp only [nP]
      refine tkH 5 (v := ?_) (y := Or.inl ⟨by rfl, (by rintro W ⟨o0, o1, o2⟩; go_simp <;> with_reducible rfl)⟩) (h := ?_)
      try simp only [nP]
      refine tkH 6 (v := ?_) (y := Or.inl ⟨by rfl, (by rintro W ⟨o0, o1, o2⟩; go_simp <;> with_reducible rfl)⟩) (h := ?_)
      try simp only [nP]
      refine tkH 7 (v := ?_) (y := Or.inl ⟨by rfl, (by rintro W ⟨o0, o1, o2⟩; go_simp <;> with_reducible rfl)⟩) (h := ?_)
      try simp only [nP]
      refine tkH 8 (v := ?_) (y := Or.inl ⟨by rfl, (by rintro W ⟨o0, o1, o2⟩; go_simp <;> with_reducible rfl)⟩) (h := ?_)
      try simp only [nP]
      refine tkH 9 (v := ?_) (y := Or.inl ⟨by rfl, (by rintro W ⟨o0, o1, o2⟩; go_simp <;> with_reducible rfl)⟩) (h := ?_)
      try simp only [nP]
      refine tkH 10 (v := ?_) (y := Or.inl ⟨by rfl, (by rintro W ⟨o0, o1, o2⟩; go_simp <;> with_reducible rfl)⟩) (h := ?_)
      try simp only [nP]
      refine tkH 11 (v := ?_) (y := Or.inl ⟨by rfl, (by rintro W ⟨o0, o1, o2⟩; go_simp <;> with_reducible rfl)⟩) (h := ?_)
      try simp only [nP]
      refine tkH 12 (v := ?_) (y := Or.inl ⟨by rfl, (by rintro W ⟨o0, o1, o2⟩; go_simp <;> with_reducible rfl)⟩) (h := ?_)
      try simp only [nP]
      refine tkH 13 (v := ?_) (y := Or.inl ⟨by rfl, (by rintro W ⟨o0, o1, o2⟩; go_simp <;> with_reducible rfl)⟩) (h := ?_)
      try simp only [nP]
      refine tkH 14 (v := ?_) (y := Or.inl ⟨by rfl, (by rintro W ⟨o0, o1, o2⟩; go_simp <;> with_reducible rfl)⟩) (h := ?_)
      try simp only [nP]
      refine tkH 15 (v := ?_) (y := Or.inl ⟨by rfl, (by rintro W ⟨o0, o1, o2⟩; go_simp <;> with_reducible rfl)⟩) (h := ?_)
      try simp only [nP]
      refine wpAnyH_done (by kernel_rfl) ?_ _
      cases e2 with
      | false =>
       have hkh : KH = 0 := by rw [← HKH.out, hitP_at HN9.out, HE2.out]; rfl
       go_upto_region 7 with fail
       obtain ⟨wq, hwq⟩ : ∃ W, wc.drew = W := ⟨_, rfl⟩
       have hkd : Kept wc wq := by rw [← hwq]; exact Kept.drew _
       try rw [hwq]
       clear hwq
       have HR6 := lH (HR6.out.kept hkd)
       have HK6 := lH (HK6.out.trans hkd)
       clear hkd
       obtain ⟨KQ, hKQ⟩ : ∃ q : Nat, q = K0 := ⟨_, rfl⟩
       have hcast : (K0 : Int) = (KQ : Int) := by rw [hKQ]
       rw [hcast]
       have HKQ := lH (show K0 + KH = KQ by rw [hkh]; exact hKQ.symm)
       have hkqm : KQ ≤ m := by omega
       clear hKQ hcast hkh
       have hqI : ((KQ : Int)).toNat = KQ := by omega
       have hq0i : (0 : Int) ≤ (KQ : Int) := by omega
       have hqmI : (KQ : Int) ≤ (m : Int) := by omega
       have hqcI : KQ ≤ cp := by have := HCAP.out; omega
       go_upto_region 7 with fail
       have J := lH (Kept.drew wq)
       refine wp_region_held_drew (S := fun W => W.cell? ⟨w.heap.size, 0, none⟩ = some (.slice a len cap) ∧ W.cell? ⟨w.heap.size, 1, none⟩ = some (.slice (some ⟨b9, off, none⟩) m cp) ∧ W.cell? ⟨w.heap.size, 2, none⟩ = some (.slice d n cb)) (by kernel_rfl) (HF3.out _ (HK6.out.trans J.out)) (fun hHeld => ?_)
       refine tkH 0 (v := ?_) (y := Or.inl ⟨by rfl, (by rintro W ⟨o0, o1, o2⟩; go_simp <;> with_reducible rfl)⟩) (h := ?_)
       try simp only [nP]
       refine tkH 1 (v := ?_) (y := Or.inl ⟨by rfl, (by rintro W ⟨o0, o1, o2⟩; go_simp <;> with_reducible rfl)⟩) (h := ?_)
       try simp only [nP]
       refine tkH 2 (v := ?_) (y := Or.inl ⟨by rfl, (by rintro W ⟨o0, o1, o2⟩; go_simp <;> with_reducible rfl)⟩) (h := ?_)
       try simp only [nP]
       refine tkH 3 (v := ?_) (y := Or.inl ⟨by rfl, (by rintro W ⟨o0, o1, o2⟩; go_simp <;> with_reducible rfl)⟩) (h := ?_)
       try simp only [nP]
       refine tkH 4 (v := ?_) (y := Or.inl ⟨by rfl, (by rintro W ⟨o0, o1, o2⟩; go_simp <;> with_reducible rfl)⟩) (h := ?_)
       try simp only [nP]
       refine tkH 5 (v := ?_) (y := Or.inl ⟨by rfl, (by rintro W ⟨o0, o1, o2⟩; go_simp <;> with_reducible rfl)⟩) (h := ?_)
       try simp only [nP]
       refine rdH (rs := [6]) (h := coH (fun K9 hK9 => ?_) AllReadyH.nil)
       refine step_app_own kindRP _ rfl (.tmp 53) (.tmp 57) rfl Z.heap.size (HK6.out.trans J.out).size g (K0 + 1) c6 (rowCells PodLay0 (lx.take K0 ++ [(p, (pa1, pm1, pc1), (pa2, pm2, pc2), (pa3, pm3, pc3), (pa4, pm4, pc4))])) rfl (by have := (HR6.out.kept J.out).1; rw [List.length_append, List.length_take, HLEN.out, Nat.min_eq_left hk0m] at this; exact this) _ (m - KQ) (rowCells PodLay0 (lx.drop KQ)) rfl ?_ (rowCells_one _ _) ?_ (by unfold maxLen; omega) (by omega) ?_
       · rw [rowCells_length, List.length_drop, HLEN.out]; rfl
       · exact src_from (HRX.out.kept (HK6.out.trans J.out)) hkqm HCAP.out
       rintro g9 c9 W6 ho9 hd9 hg9
       have JZ := lH (show Kept Z W6 from Below.trans (HK6.out.trans J.out) hd9)
       have HPR := lH (show PodsR W6 (.slice (some ⟨g9, 0, none⟩) (K0 + 1 + (m - KQ)) c9) (rputP p s.pods) by
        have h9 := pods_own (put_row ho9 (by rw [List.length_append, List.length_take, HLEN.out, Nat.min_eq_left hk0m, List.length_drop, HLEN.out]; rfl)) (fun z hz => by
         rcases List.mem_append.1 hz with hz | hz
         · rcases List.mem_append.1 hz with hz | hz
           · exact PodAt.kept (HAT.out z (List.mem_of_mem_take hz)) JZ.out
           · obtain rfl := List.mem_singleton.1 hz
             exact PodAt.kept HPT.out JZ.out
         · exact PodAt.kept (HAT.out z (List.mem_of_mem_drop hz)) JZ.out)
        rw [List.map_append, List.map_append, List.map_take, List.map_drop, HLX.out] at h9
        unfold rputP
        rw [HK0.out, HKH.out, HKQ.out]
        simpa using h9)
       refine hK9.out _ _ (HF3.out _ JZ.out) (fun hHeld1 => ?_)
       clear hK9 K9 ho9 hd9 hg9
       try simp only [nP]
       refine rdH (rs := [7]) (h := coH (fun K9 hK9 => ?_) AllReadyH.nil)
       go_simp
       obtain ⟨m9, hm9⟩ : ∃ q, K0 + 1 + (m - KQ) = q := ⟨_, rfl⟩
       rw [hm9] at HPR
       try rw [hm9]
       clear hm9
       refine (rwithR (HV.out.kept JZ.out) HPR.out).mono ?_
       rintro e w9 ⟨y9, rfl, hy, kk⟩
       have hy0 := hy
       obtain ⟨_, _, _, rfl, ⟨g1, r1, rfl, -, -, -⟩, ⟨g2, r2, rfl, -, -, -⟩, ⟨g3, r3, rfl, -, -, -⟩⟩ := hy0
       have JZ := lH (JZ.out.trans kk)
       obtain ⟨t1, ht1⟩ : ∃ q, ({ s with pods := rputP p s.pods } : Clu).nodes.length = q := ⟨_, rfl⟩
       rw [ht1] at hy
       try rw [ht1]
       clear ht1
       obtain ⟨t2, ht2⟩ : ∃ q, ({ s with pods := rputP p s.pods } : Clu).pods.length = q := ⟨_, rfl⟩
       rw [ht2] at hy
       try rw [ht2]
       clear ht2
       obtain ⟨t3, ht3⟩ : ∃ q, ({ s with pods := rputP p s.pods } : Clu).buds.length = q := ⟨_, rfl⟩
       rw [ht3] at hy
       try rw [ht3]
       clear ht3
       have HY := lH hy
       clear hy kk
       refine hK9.out _ _ (HF3.out _ JZ.out) (fun hHeld1 => ?_)
       clear hK9 K9
       try simp only [nP]
       have H9 := lH (HH.out.kept JZ.out)
       have z0 := H9.out.at_ 0 _ rfl
       have z1 := H9.out.at_ 1 _ rfl
       have z2 := H9.out.at_ 2 _ rfl
       have f0 := H9.out.free 0
       have f1 := H9.out.free 1
       have f2 := H9.out.free 2
       have PP := lH (putN (vs := [.slice g1 t1 r1, .slice g2 t2 r2, .slice g3 t3 r3]) H9.out rfl)
       refine rdH (rs := [8]) (h := coH (fun K9 hK9 => ?_) AllReadyH.nil)
       go_simp
       obtain ⟨WE, hWE⟩ : ∃ W, w9.setCells (w.heap.size + 2) 0 [.slice g1 t1 r1, .slice g2 t2 r2, .slice g3 t3 r3] = W := ⟨_, rfl⟩
       have hWE2 : (((w9.setCell ⟨(w.heap.size + 2), 0, none⟩ (.slice g1 t1 r1)).setCell ⟨(w.heap.size + 2), 1, none⟩ (.slice g2 t2 r2)).setCell ⟨(w.heap.size + 2), 2, none⟩ (.slice g3 t3 r3)) = WE := hWE
       rw [hWE] at PP
       try rw [hWE2]
       clear hWE hWE2
       obtain ⟨PC, hsz, hbl, hkp⟩ := PP.out
       refine hK9.out _ _ (HF5.out _ _ hbl JZ.out) (fun hHeldS => ?_)
       clear hK9 K9 z0 z1 z2 f0 f1 f2
       try simp only [nP]
       refine wpAnyH_done (by kernel_rfl) ?_ _
       obtain ⟨A2, hA2⟩ : ∃ A, (if cp = KQ then some (⟨b9, off, none⟩ : Addr) else some ⟨b9, off + KQ * 11, none⟩) = A := ⟨_, rfl⟩
       try rw [hA2]
       clear hA2
       go_wp2
       refine bodyPost_ret (by simp [results, Tryz.results25, go_sem, PC.at_ 0 _ rfl, PC.at_ 1 _ rfl, PC.at_ 2 _ rfl]; try rfl) rfl ?_
       exact ⟨_, rfl, clu_pastS hsz hbl (HSL.out _ JZ.out) HY.out, hkp _ _ (Nat.le_add_right _ _) (HKZ.out.trans JZ.out)⟩
      | true =>
       have hkh : KH = 1 := by rw [← HKH.out, hitP_at HN9.out, HE2.out]; rfl
       go_upto_region 7 with fail
       obtain ⟨wq, hwq⟩ : ∃ W, wc.drew = W := ⟨_, rfl⟩
       have hkd : Kept wc wq := by rw [← hwq]; exact Kept.drew _
       try rw [hwq]
       clear hwq
       have HR6 := lH (HR6.out.kept hkd)
       have HK6 := lH (HK6.out.trans hkd)
       clear hkd
       obtain ⟨KQ, hKQ⟩ : ∃ q : Nat, q = K0 + 1 := ⟨_, rfl⟩
       have hcast : (K0 : Int) + 1 = (KQ : Int) := by rw [hKQ]; push_cast; rfl
       rw [hcast]
       have HKQ := lH (show K0 + KH = KQ by rw [hkh]; exact hKQ.symm)
       have hkqm : KQ ≤ m := by omega
       clear hKQ hcast hkh
       have hqI : ((KQ : Int)).toNat = KQ := by omega
       have hq0i : (0 : Int) ≤ (KQ : Int) := by omega
       have hqmI : (KQ : Int) ≤ (m : Int) := by omega
       have hqcI : KQ ≤ cp := by have := HCAP.out; omega
       go_upto_region 7 with fail
       have J := lH (Kept.drew wq)
       refine wp_region_held_drew (S := fun W => W.cell? ⟨w.heap.size, 0, none⟩ = some (.slice a len cap) ∧ W.cell? ⟨w.heap.size, 1, none⟩ = some (.slice (some ⟨b9, off, none⟩) m cp) ∧ W.cell? ⟨w.heap.size, 2, none⟩ = some (.slice d n cb)) (by kernel_rfl) (HF3.out _ (HK6.out.trans J.out)) (fun hHeld => ?_)
       refine tkH 0 (v := ?_) (y := Or.inl ⟨by rfl, (by rintro W ⟨o0, o1, o2⟩; go_simp <;> with_reducible rfl)⟩) (h := ?_)
       try simp only [nP]
       refine tkH 1 (v := ?_) (y := Or.inl ⟨by rfl, (by rintro W ⟨o0, o1, o2⟩; go_simp <;> with_reducible rfl)⟩) (h := ?_)
       try simp only [nP]
       refine tkH 2 (v := ?_) (y := Or.inl ⟨by rfl, (by rintro W ⟨o0, o1, o2⟩; go_simp <;> with_reducible rfl)⟩) (h := ?_)
       try simp only [nP]
       refine tkH 3 (v := ?_) (y := Or.inl ⟨by rfl, (by rintro W ⟨o0, o1, o2⟩; go_simp <;> with_reducible rfl)⟩) (h := ?_)
       try simp only [nP]
       refine tkH 4 (v := ?_) (y := Or.inl ⟨by rfl, (by rintro W ⟨o0, o1, o2⟩; go_simp <;> with_reducible rfl)⟩) (h := ?_)
       try simp only [nP]
       refine tkH 5 (v := ?_) (y := Or.inl ⟨by rfl, (by rintro W ⟨o0, o1, o2⟩; go_simp <;> with_reducible rfl)⟩) (h := ?_)
       try simp only [nP]
       refine rdH (rs := [6]) (h := coH (fun K9 hK9 => ?_) AllReadyH.nil)
       refine step_app_own kindRP _ rfl (.tmp 53) (.tmp 57) rfl Z.heap.size (HK6.out.trans J.out).size g (K0 + 1) c6 (rowCells PodLay0 (lx.take K0 ++ [(p, (pa1, pm1, pc1), (pa2, pm2, pc2), (pa3, pm3, pc3), (pa4, pm4, pc4))])) rfl (by have := (HR6.out.kept J.out).1; rw [List.length_append, List.length_take, HLEN.out, Nat.min_eq_left hk0m] at this; exact this) _ (m - KQ) (rowCells PodLay0 (lx.drop KQ)) rfl ?_ (rowCells_one _ _) ?_ (by unfold maxLen; omega) (by omega) ?_
       · rw [rowCells_length, List.length_drop, HLEN.out]; rfl
       · exact src_from (HRX.out.kept (HK6.out.trans J.out)) hkqm HCAP.out
       rintro g9 c9 W6 ho9 hd9 hg9
       have JZ := lH (show Kept Z W6 from Below.trans (HK6.out.trans J.out) hd9)
       have HPR := lH (show PodsR W6 (.slice (some ⟨g9, 0, none⟩) (K0 + 1 + (m - KQ)) c9) (rputP p s.pods) by
        have h9 := pods_own (put_row ho9 (by rw [List.length_append, List.length_take, HLEN.out, Nat.min_eq_left hk0m, List.length_drop, HLEN.out]; rfl)) (fun z hz => by
         rcases List.mem_append.1 hz with hz | hz
         · rcases List.mem_append.1 hz with hz | hz
           · exact PodAt.kept (HAT.out z (List.mem_of_mem_take hz)) JZ.out
           · obtain rfl := List.mem_singleton.1 hz
             exact PodAt.kept HPT.out JZ.out
         · exact PodAt.kept (HAT.out z (List.mem_of_mem_drop hz)) JZ.out)
        rw [List.map_append, List.map_append, List.map_take, List.map_drop, HLX.out] at h9
        unfold rputP
        rw [HK0.out, HKH.out, HKQ.out]
        simpa using h9)
       refine hK9.out _ _ (HF3.out _ JZ.out) (fun hHeld1 => ?_)
       clear hK9 K9 ho9 hd9 hg9
       try simp only [nP]
       refine rdH (rs := [7]) (h := coH (fun K9 hK9 => ?_) AllReadyH.nil)
       go_simp
       obtain ⟨m9, hm9⟩ : ∃ q, K0 + 1 + (m - KQ) = q := ⟨_, rfl⟩
       rw [hm9] at HPR
       try rw [hm9]
       clear hm9
       refine (rwithR (HV.out.kept JZ.out) HPR.out).mono ?_
       rintro e w9 ⟨y9, rfl, hy, kk⟩
       have hy0 := hy
       obtain ⟨_, _, _, rfl, ⟨g1, r1, rfl, -, -, -⟩, ⟨g2, r2, rfl, -, -, -⟩, ⟨g3, r3, rfl, -, -, -⟩⟩ := hy0
       have JZ := lH (JZ.out.trans kk)
       obtain ⟨t1, ht1⟩ : ∃ q, ({ s with pods := rputP p s.pods } : Clu).nodes.length = q := ⟨_, rfl⟩
       rw [ht1] at hy
       try rw [ht1]
       clear ht1
       obtain ⟨t2, ht2⟩ : ∃ q, ({ s with pods := rputP p s.pods } : Clu).pods.length = q := ⟨_, rfl⟩
       rw [ht2] at hy
       try rw [ht2]
       clear ht2
       obtain ⟨t3, ht3⟩ : ∃ q, ({ s with pods := rputP p s.pods } : Clu).buds.length = q := ⟨_, rfl⟩
       rw [ht3] at hy
       try rw [ht3]
       clear ht3
       have HY := lH hy
       clear hy kk
       refine hK9.out _ _ (HF3.out _ JZ.out) (fun hHeld1 => ?_)
       clear hK9 K9
       try simp only [nP]
       have H9 := lH (HH.out.kept JZ.out)
       have z0 := H9.out.at_ 0 _ rfl
       have z1 := H9.out.at_ 1 _ rfl
       have z2 := H9.out.at_ 2 _ rfl
       have f0 := H9.out.free 0
       have f1 := H9.out.free 1
       have f2 := H9.out.free 2
       have PP := lH (putN (vs := [.slice g1 t1 r1, .slice g2 t2 r2, .slice g3 t3 r3]) H9.out rfl)
       refine rdH (rs := [8]) (h := coH (fun K9 hK9 => ?_) AllReadyH.nil)
       go_simp
       obtain ⟨WE, hWE⟩ : ∃ W, w9.setCells (w.heap.size + 2) 0 [.slice g1 t1 r1, .slice g2 t2 r2, .slice g3 t3 r3] = W := ⟨_, rfl⟩
       have hWE2 : (((w9.setCell ⟨(w.heap.size + 2), 0, none⟩ (.slice g1 t1 r1)).setCell ⟨(w.heap.size + 2), 1, none⟩ (.slice g2 t2 r2)).setCell ⟨(w.heap.size + 2), 2, none⟩ (.slice g3 t3 r3)) = WE := hWE
       rw [hWE] at PP
       try rw [hWE2]
       clear hWE hWE2
       obtain ⟨PC, hsz, hbl, hkp⟩ := PP.out
       refine hK9.out _ _ (HF5.out _ _ hbl JZ.out) (fun hHeldS => ?_)
       clear hK9 K9 z0 z1 z2 f0 f1 f2
       try simp only [nP]
       refine wpAnyH_done (by kernel_rfl) ?_ _
       obtain ⟨A2, hA2⟩ : ∃ A, (if cp = KQ then some (⟨b9, off, none⟩ : Addr) else some ⟨b9, off + KQ * 11, none⟩) = A := ⟨_, rfl⟩
       try rw [hA2]
       clear hA2
       go_wp2
       refine bodyPost_ret (by simp [results, Tryz.results25, go_sem, PC.at_ 0 _ rfl, PC.at_ 1 _ rfl, PC.at_ 2 _ rfl]; try rfl) rfl ?_
       exact ⟨_, rfl, clu_pastS hsz hbl (HSL.out _ JZ.out) HY.out, hkp _ _ (Nat.le_add_right _ _) (HKZ.out.trans JZ.out)⟩
  · have hkk : ¬ (k : Int) < (m : Int) := by omega
    obtain rfl : K0 = k := by omega
    clear hK cq1 pq0 pq1 pq2 pq3 pq4 pq5 pq6 pq7 pq8 pq9 pq10
    have HF2 := lH (fun W (kk : Kept wr W) => HF4.out W (HK.out.trans kk))
    go_upto_region 2 with fail
    refine wp_region_held_drew (S := fun W => W.cell? ⟨w.heap.size, 1, none⟩ = some (.slice b m cp) ∧ W.cell? ⟨w.heap.size + 1, 0, none⟩ = some (.string p.name) ∧ W.cell? ⟨w.heap.size + 1, 1, none⟩ = some (.string p.owner) ∧ W.cell? ⟨w.heap.size + 1, 2, none⟩ = some (.int .i64 p.prio) ∧ W.cell? ⟨w.heap.size + 1, 3, none⟩ = some (.slice pa1 pm1 pc1) ∧ W.cell? ⟨w.heap.size + 1, 4, none⟩ = some (.slice pa2 pm2 pc2) ∧ W.cell? ⟨w.heap.size + 1, 5, none⟩ = some (.slice pa3 pm3 pc3) ∧ W.cell? ⟨w.heap.size + 1, 6, none⟩ = some (.slice pa4 pm4 pc4) ∧ W.cell? ⟨w.heap.size + 1, 7, none⟩ = some (.string p.key) ∧ W.cell? ⟨w.heap.size + 1, 8, none⟩ = some (.int .i64 p.most) ∧ W.cell? ⟨w.heap.size + 1, 9, none⟩ = some (.string p.node) ∧ W.cell? ⟨w.heap.size + 1, 10, none⟩ = some (.bool p.hold)) (by kernel_rfl) (HF2.out _ (Kept.drew _)) (fun hHeld => ?_)
    refine tkH 0 (v := ?_) (y := Or.inl ⟨by rfl, (by rintro W ⟨o0, o1, o2, o3, o4, o5, o6, o7, o8, o9, o10, o11⟩; go_simp <;> with_reducible rfl)⟩) (h := ?_)
    try simp only [nP]
    refine tkH 1 (v := ?_) (y := Or.inl ⟨by rfl, (by rintro W ⟨o0, o1, o2, o3, o4, o5, o6, o7, o8, o9, o10, o11⟩; go_simp <;> with_reducible rfl)⟩) (h := ?_)
    try simp only [nP]
    refine tkH 2 (v := ?_) (y := Or.inl ⟨by rfl, (by rintro W ⟨o0, o1, o2, o3, o4, o5, o6, o7, o8, o9, o10, o11⟩; go_simp <;> with_reducible rfl)⟩) (h := ?_)
    try simp only [nP]
    refine tkH 3 (v := ?_) (y := Or.inl ⟨by rfl, (by rintro W ⟨o0, o1, o2, o3, o4, o5, o6, o7, o8, o9, o10, o11⟩; go_simp <;> with_reducible rfl)⟩) (h := ?_)
    try simp only [nP]
    refine tkH 4 (v := ?_) (y := Or.inl ⟨by rfl, (by rintro W ⟨o0, o1, o2, o3, o4, o5, o6, o7, o8, o9, o10, o11⟩; go_simp <;> with_reducible rfl)⟩) (h := ?_)
    try simp only [nP]
    refine tkH 5 (v := ?_) (y := Or.inl ⟨by rfl, (by rintro W ⟨o0, o1, o2, o3, o4, o5, o6, o7, o8, o9, o10, o11⟩; go_simp <;> with_reducible rfl)⟩) (h := ?_)
    try simp only [nP]
    refine tkH 6 (v := undef) (y := Or.inr ⟨by rfl, rfl⟩) (h := ?_)
    try simp only [nP]
    refine tkH 7 (v := undef) (y := Or.inr ⟨by rfl, rfl⟩) (h := ?_)
    try simp only [nP]
    refine tkH 8 (v := undef) (y := Or.inr ⟨by rfl, rfl⟩) (h := ?_)
    try simp only [nP]
    refine tkH 9 (v := undef) (y := Or.inr ⟨by rfl, rfl⟩) (h := ?_)
    try simp only [nP]
    refine tkH 10 (v := undef) (y := Or.inr ⟨by rfl, rfl⟩) (h := ?_)
    try simp only [nP]
    refine tkH 11 (v := undef) (y := Or.inr ⟨by rfl, rfl⟩) (h := ?_)
    try simp only [nP]
    refine tkH 12 (v := undef) (y := Or.inr ⟨by rfl, rfl⟩) (h := ?_)
    try simp only [nP]
    refine tkH 13 (v := undef) (y := Or.inr ⟨by rfl, rfl⟩) (h := ?_)
    try simp only [nP]
    refine tkH 14 (v := undef) (y := Or.inr ⟨by rfl, rfl⟩) (h := ?_)
    try simp only [nP]
    refine tkH 15 (v := ?_) (y := Or.inl ⟨by rfl, (by rintro W ⟨o0, o1, o2, o3, o4, o5, o6, o7, o8, o9, o10, o11⟩; go_simp <;> with_reducible rfl)⟩) (h := ?_)
    try simp only [nP]
    refine wpAnyH_done (by kernel_rfl) ?_ _
    clear HF2
    obtain ⟨wb, hwb⟩ : ∃ W, wr.drew = W := ⟨_, rfl⟩
    have HKB := lH (show Kept Z wb by rw [← hwb]; exact (HK.out.trans (Kept.drew _)))
    try rw [hwb]
    clear hwb
    go_upto_region 4 with fail
    go_cut [6] from 25 to 33 (fun s6 wx => ∃ g c, s6 = .slice (some ⟨g, 0, none⟩) (K0 + 1) c ∧ Hid (Own PodLay0 69 wx Z.heap.size (.slice (some ⟨g, 0, none⟩) (K0 + 1) c) (lx.take K0 ++ [(p, (pa1, pm1, pc1), (pa2, pm2, pc2), (pa3, pm3, pc3), (pa4, pm4, pc4))]) ∧ Kept Z wx))
    case first =>
     have J := lH (Kept.drew wb)
     have JK := lH HKB.out
     have HF := lH (fun W (k : Kept wb W) => HF4.out W (JK.out.trans k))
     have hkI : ((K0 : Int)).toNat = K0 := by omega
     have hk0i : (0 : Int) ≤ (K0 : Int) := by omega
     have hkmI : (K0 : Int) ≤ (m : Int) := by omega
     have hkcI : K0 ≤ cp := by have := HCAP.out; omega
     have hkcI2 : (K0 : Int) ≤ (cp : Int) := by omega
     have HBS := lH (show Z.heap.size ≤ wb.heap.size from JK.out.size)
     refine wp_region_held_drew (S := fun W => W.cell? ⟨w.heap.size, 1, none⟩ = some (.slice b m cp) ∧ W.cell? ⟨w.heap.size + 1, 0, none⟩ = some (.string p.name) ∧ W.cell? ⟨w.heap.size + 1, 1, none⟩ = some (.string p.owner) ∧ W.cell? ⟨w.heap.size + 1, 2, none⟩ = some (.int .i64 p.prio) ∧ W.cell? ⟨w.heap.size + 1, 3, none⟩ = some (.slice pa1 pm1 pc1) ∧ W.cell? ⟨w.heap.size + 1, 4, none⟩ = some (.slice pa2 pm2 pc2) ∧ W.cell? ⟨w.heap.size + 1, 5, none⟩ = some (.slice pa3 pm3 pc3) ∧ W.cell? ⟨w.heap.size + 1, 6, none⟩ = some (.slice pa4 pm4 pc4) ∧ W.cell? ⟨w.heap.size + 1, 7, none⟩ = some (.string p.key) ∧ W.cell? ⟨w.heap.size + 1, 8, none⟩ = some (.int .i64 p.most) ∧ W.cell? ⟨w.heap.size + 1, 9, none⟩ = some (.string p.node) ∧ W.cell? ⟨w.heap.size + 1, 10, none⟩ = some (.bool p.hold)) (by kernel_rfl) (HF.out _ J.out) (fun hHeld => ?_)
     obtain ⟨wd, hwd⟩ : ∃ W, wb.drew = W := ⟨_, rfl⟩
     rw [hwd] at J hHeld
     try rw [hwd]
     clear hwd
     refine tkH 1 (v := ?_) (y := Or.inl ⟨by rfl, (by rintro W ⟨o0, o1, o2, o3, o4, o5, o6, o7, o8, o9, o10, o11⟩; go_simp <;> with_reducible rfl)⟩) (h := ?_)
     try simp only [nP]
     refine tkH 2 (v := ?_) (y := Or.inl ⟨by rfl, (by rintro W ⟨o0, o1, o2, o3, o4, o5, o6, o7, o8, o9, o10, o11⟩; go_simp <;> with_reducible rfl)⟩) (h := ?_)
     try simp only [nP]
     refine tkH 3 (v := ?_) (y := Or.inl ⟨by rfl, (by rintro W ⟨o0, o1, o2, o3, o4, o5, o6, o7, o8, o9, o10, o11⟩; go_simp <;> with_reducible rfl)⟩) (h := ?_)
     try simp only [nP]
     refine tkH 4 (v := ?_) (y := Or.inl ⟨by rfl, (by rintro W ⟨o0, o1, o2, o3, o4, o5, o6, o7, o8, o9, o10, o11⟩; go_simp <;> with_reducible rfl)⟩) (h := ?_)
     try simp only [nP]
     refine tkH 6 (v := ?_) (y := Or.inl ⟨by rfl, (by rintro W ⟨o0, o1, o2, o3, o4, o5, o6, o7, o8, o9, o10, o11⟩; go_simp <;> with_reducible rfl)⟩) (h := ?_)
     try simp only [nP]
     refine rdH (rs := [0, 7]) (h := coH (fun K9 hK9 => ?_) (coH (fun K9 hK9 => ?_) AllReadyH.nil))
     · skip
       go_simp
       refine hK9.out _ _ (HF.out _ (J.out.trans (kept_alloc _ _))) (fun hHeld0 => ?_)
       clear hK9 K9
       try simp only [nP]
       obtain ⟨W0, hW0⟩ : ∃ W, wd.alloc (.cells #[] 69) = W := ⟨_, rfl⟩
       have hk0 : Kept wd W0 := by rw [← hW0]; exact kept_alloc _ _
       have HO0 := lH (show W0.ownsRow Z.heap.size 69 11 (.slice (some ⟨wd.heap.size, 0, none⟩) 0 0) 0 [] by rw [← hW0]; exact own_empty _ _ 11 _ (Nat.le_trans HBS.out J.out.size))
       have HG0 := lH (show wd.heap.size < W0.heap.size by rw [← hW0, World.size_alloc]; exact Nat.lt_succ_self _)
       have J := lH (J.out.trans hk0)
       obtain ⟨q0, hq0⟩ : ∃ q, wd.heap.size = q := ⟨_, rfl⟩
       rw [hq0] at HO0 HG0
       try rw [hW0]
       try rw [hq0]
       clear hW0 hk0 hq0
       refine rdH (rs := [5, 7]) (h := coH (fun K9 hK9 => ?_) (coH (fun K9 hK9 => ?_) AllReadyH.nil))
       · skip
         refine step_app_own kindRP _ rfl (.tmp 25) (.tmp 29) rfl Z.heap.size (Nat.le_trans HBS.out J.out.size) q0 0 0 [] rfl HO0.out _ K0 (rowCells PodLay0 (lx.take K0)) rfl ?_ (rowCells_one _ _) (RowAt.src ((HRX.out.low hk0m).kept (JK.out.trans J.out))) (by unfold maxLen; omega) (by omega) ?_
         · rw [rowCells_length, List.length_take, HLEN.out, Nat.min_eq_left hk0m]; rfl
         rintro g5 c5 W1 ho5 hd5 hg5
         simp only [Nat.zero_add, List.nil_append] at ho5 ⊢
         have HO5 := lH (show Own PodLay0 69 W1 Z.heap.size (.slice (some ⟨g5, 0, none⟩) K0 c5) (lx.take K0) from ⟨by rw [List.length_take, HLEN.out, Nat.min_eq_left hk0m]; exact ho5, fun _ _ => trivial⟩)
         have JZ := lH (show Kept Z W1 from Below.trans (JK.out.trans J.out) hd5)
         refine hK9.out _ _ (HF4.out _ JZ.out) (fun hHeld1 => ?_)
         clear hK9 K9 ho5 hd5 hg5
         try simp only [nP]
         refine rdH (rs := [7]) (h := coH (fun K9 hK9 => ?_) AllReadyH.nil)
         go_simp
         refine hK9.out _ _ (HF4.out _ (JZ.out.trans (kept_alloc _ _))) (fun hHeld2 => ?_)
         clear hK9 K9
         try simp only [nP]
         obtain ⟨W2, hW2⟩ : ∃ W, W1.alloc (.cells #[.string p.name, .string p.owner, .int .i64 p.prio, .slice pa1 pm1 pc1, .slice pa2 pm2 pc2, .slice pa3 pm3 pc3, .slice pa4 pm4 pc4, .string p.key, .int .i64 p.most, .string p.node, .bool p.hold] 69) = W := ⟨_, rfl⟩
         have hk2 : Kept W1 W2 := by rw [← hW2]; exact kept_alloc _ _
         have H7 := lH (show W2.heap[W1.heap.size]? = some (.cells #[.string p.name, .string p.owner, .int .i64 p.prio, .slice pa1 pm1 pc1, .slice pa2 pm2 pc2, .slice pa3 pm3 pc3, .slice pa4 pm4 pc4, .string p.key, .int .i64 p.most, .string p.node, .bool p.hold] 69 (0, 0)) by rw [← hW2]; exact World.alloc_heap_new W1 _)
         have HO5 := lH (show Own PodLay0 69 W2 Z.heap.size (.slice (some ⟨g5, 0, none⟩) K0 c5) (lx.take K0) from HO5.out.kept hk2)
         have JZ := lH (JZ.out.trans hk2)
         obtain ⟨q7, hq7⟩ : ∃ q, W1.heap.size = q := ⟨_, rfl⟩
         rw [hq7] at H7
         try rw [hW2]
         try rw [hq7]
         clear hW2 hk2 hq7
         refine rdH (rs := [8]) (h := coH (fun K9 hK9 => ?_) AllReadyH.nil)
         refine step_app_own kindRP _ rfl (.tmp 30) (.tmp 32) rfl Z.heap.size JZ.out.size g5 K0 c5 (rowCells PodLay0 (lx.take K0)) rfl (by have := HO5.out.1; rw [List.length_take, HLEN.out, Nat.min_eq_left hk0m] at this; exact this) _ 1 (PodLay0.cs (p, (pa1, pm1, pc1), (pa2, pm2, pc2), (pa3, pm3, pc3), (pa4, pm4, pc4))) rfl rfl (one_pod0 _) (src_new rfl H7.out) (by unfold maxLen; omega) (by omega) ?_
         rintro g8 c8 W3 ho8 hd8 hg8
         have HO8 := lH (show Own PodLay0 69 W3 Z.heap.size (.slice (some ⟨g8, 0, none⟩) (K0 + 1) c8) (lx.take K0 ++ [(p, (pa1, pm1, pc1), (pa2, pm2, pc2), (pa3, pm3, pc3), (pa4, pm4, pc4))]) from Own.snoc ho8 (by rw [List.length_take, HLEN.out, Nat.min_eq_left hk0m]) (fun _ _ => trivial) trivial)
         have JZ := lH (show Kept Z W3 from Below.trans JZ.out hd8)
         refine hK9.out _ _ (HF4.out _ JZ.out) (fun hHeld3 => ?_)
         clear hK9 K9 ho8 hd8 hg8
         try simp only [nP]
         refine tkH 9 (v := ?_) (y := Or.inl ⟨by rfl, (by rintro W ⟨o0, o1, o2, o3, o4, o5, o6, o7, o8, o9, o10, o11⟩; go_simp <;> with_reducible rfl)⟩) (h := ?_)
         try simp only [nP]
         refine wpAnyH_done (by kernel_rfl) ?_ _
         go_wp2
         go_meet
         case rel => exact ⟨g8, c8, rfl, lH ⟨HO8.out, JZ.out⟩⟩
       · skip
         go_simp
         refine hK9.out _ _ (HF.out _ (J.out.trans (kept_alloc _ _))) (fun hHeld1 => ?_)
         clear hK9 K9
         try simp only [nP]
         obtain ⟨W1, hW1⟩ : ∃ W, W0.alloc (.cells #[.string p.name, .string p.owner, .int .i64 p.prio, .slice pa1 pm1 pc1, .slice pa2 pm2 pc2, .slice pa3 pm3 pc3, .slice pa4 pm4 pc4, .string p.key, .int .i64 p.most, .string p.node, .bool p.hold] 69) = W := ⟨_, rfl⟩
         have hk1 : Kept W0 W1 := by rw [← hW1]; exact kept_alloc _ _
         have H7 := lH (show W1.heap[W0.heap.size]? = some (.cells #[.string p.name, .string p.owner, .int .i64 p.prio, .slice pa1 pm1 pc1, .slice pa2 pm2 pc2, .slice pa3 pm3 pc3, .slice pa4 pm4 pc4, .string p.key, .int .i64 p.most, .string p.node, .bool p.hold] 69 (0, 0)) by rw [← hW1]; exact World.alloc_heap_new W0 _)
         have H7L := lH (show W0.heap.size < W1.heap.size by rw [← hW1, World.size_alloc]; exact Nat.lt_succ_self _)
         have HO0 := lH (show W1.ownsRow Z.heap.size 69 11 (.slice (some ⟨q0, 0, none⟩) 0 0) 0 [] by rw [← hW1]; exact own_alloc HO0.out _)
         have H7N := lH (show W0.heap.size ≠ q0 by have := HG0.out; omega)
         have J := lH (J.out.trans hk1)
         obtain ⟨q7, hq7⟩ : ∃ q, W0.heap.size = q := ⟨_, rfl⟩
         rw [hq7] at H7 H7L H7N
         try rw [hW1]
         try rw [hq7]
         clear hW1 hk1 hq7
         refine rdH (rs := [5]) (h := coH (fun K9 hK9 => ?_) AllReadyH.nil)
         refine step_app_own kindRP _ rfl (.tmp 25) (.tmp 29) rfl Z.heap.size (Nat.le_trans HBS.out J.out.size) q0 0 0 [] rfl HO0.out _ K0 (rowCells PodLay0 (lx.take K0)) rfl ?_ (rowCells_one _ _) (RowAt.src ((HRX.out.low hk0m).kept (JK.out.trans J.out))) (by unfold maxLen; omega) (by omega) ?_
         · rw [rowCells_length, List.length_take, HLEN.out, Nat.min_eq_left hk0m]; rfl
         rintro g5 c5 W2 ho5 hd5 hg5
         simp only [Nat.zero_add, List.nil_append] at ho5 ⊢
         have HO5 := lH (show Own PodLay0 69 W2 Z.heap.size (.slice (some ⟨g5, 0, none⟩) K0 c5) (lx.take K0) from ⟨by rw [List.length_take, HLEN.out, Nat.min_eq_left hk0m]; exact ho5, fun _ _ => trivial⟩)
         have JZ := lH (show Kept Z W2 from Below.trans (JK.out.trans J.out) hd5)
         have H7 := lH ((hg5.block q7 H7L.out (by intro e; exact H7N.out (Option.some.inj e))).trans H7.out)
         have H7L := lH (Nat.lt_of_lt_of_le H7L.out hg5.size)
         refine hK9.out _ _ (HF4.out _ JZ.out) (fun hHeld2 => ?_)
         clear hK9 K9 ho5 hd5 hg5
         try simp only [nP]
         refine rdH (rs := [8]) (h := coH (fun K9 hK9 => ?_) AllReadyH.nil)
         refine step_app_own kindRP _ rfl (.tmp 30) (.tmp 32) rfl Z.heap.size JZ.out.size g5 K0 c5 (rowCells PodLay0 (lx.take K0)) rfl (by have := HO5.out.1; rw [List.length_take, HLEN.out, Nat.min_eq_left hk0m] at this; exact this) _ 1 (PodLay0.cs (p, (pa1, pm1, pc1), (pa2, pm2, pc2), (pa3, pm3, pc3), (pa4, pm4, pc4))) rfl rfl (one_pod0 _) (src_new rfl H7.out) (by unfold maxLen; omega) (by omega) ?_
         rintro g8 c8 W3 ho8 hd8 hg8
         have HO8 := lH (show Own PodLay0 69 W3 Z.heap.size (.slice (some ⟨g8, 0, none⟩) (K0 + 1) c8) (lx.take K0 ++ [(p, (pa1, pm1, pc1), (pa2, pm2, pc2), (pa3, pm3, pc3), (pa4, pm4, pc4))]) from Own.snoc ho8 (by rw [List.length_take, HLEN.out, Nat.min_eq_left hk0m]) (fun _ _ => trivial) trivial)
         have JZ := lH (show Kept Z W3 from Below.trans JZ.out hd8)
         refine hK9.out _ _ (HF4.out _ JZ.out) (fun hHeld3 => ?_)
         clear hK9 K9 ho8 hd8 hg8
         try simp only [nP]
         refine tkH 9 (v := ?_) (y := Or.inl ⟨by rfl, (by rintro W ⟨o0, o1, o2, o3, o4, o5, o6, o7, o8, o9, o10, o11⟩; go_simp <;> with_reducible rfl)⟩) (h := ?_)
         try simp only [nP]
         refine wpAnyH_done (by kernel_rfl) ?_ _
         go_wp2
         go_meet
         case rel => exact ⟨g8, c8, rfl, lH ⟨HO8.out, JZ.out⟩⟩
     · skip
       go_simp
       refine hK9.out _ _ (HF.out _ (J.out.trans (kept_alloc _ _))) (fun hHeld0 => ?_)
       clear hK9 K9
       try simp only [nP]
       obtain ⟨W0, hW0⟩ : ∃ W, wd.alloc (.cells #[.string p.name, .string p.owner, .int .i64 p.prio, .slice pa1 pm1 pc1, .slice pa2 pm2 pc2, .slice pa3 pm3 pc3, .slice pa4 pm4 pc4, .string p.key, .int .i64 p.most, .string p.node, .bool p.hold] 69) = W := ⟨_, rfl⟩
       have hk0 : Kept wd W0 := by rw [← hW0]; exact kept_alloc _ _
       have H7 := lH (show W0.heap[wd.heap.size]? = some (.cells #[.string p.name, .string p.owner, .int .i64 p.prio, .slice pa1 pm1 pc1, .slice pa2 pm2 pc2, .slice pa3 pm3 pc3, .slice pa4 pm4 pc4, .string p.key, .int .i64 p.most, .string p.node, .bool p.hold] 69 (0, 0)) by rw [← hW0]; exact World.alloc_heap_new wd _)
       have H7L := lH (show wd.heap.size < W0.heap.size by rw [← hW0, World.size_alloc]; exact Nat.lt_succ_self _)
       have J := lH (J.out.trans hk0)
       obtain ⟨q7, hq7⟩ : ∃ q, wd.heap.size = q := ⟨_, rfl⟩
       rw [hq7] at H7 H7L
       try rw [hW0]
       try rw [hq7]
       clear hW0 hk0 hq7
       refine rdH (rs := [0]) (h := coH (fun K9 hK9 => ?_) AllReadyH.nil)
       go_simp
       refine hK9.out _ _ (HF.out _ (J.out.trans (kept_alloc _ _))) (fun hHeld1 => ?_)
       clear hK9 K9
       try simp only [nP]
       obtain ⟨W1, hW1⟩ : ∃ W, W0.alloc (.cells #[] 69) = W := ⟨_, rfl⟩
       have hk1 : Kept W0 W1 := by rw [← hW1]; exact kept_alloc _ _
       have HO0 := lH (show W1.ownsRow Z.heap.size 69 11 (.slice (some ⟨W0.heap.size, 0, none⟩) 0 0) 0 [] by rw [← hW1]; exact own_empty _ _ 11 _ (Nat.le_trans HBS.out J.out.size))
       have HG0 := lH (show W0.heap.size < W1.heap.size by rw [← hW1, World.size_alloc]; exact Nat.lt_succ_self _)
       have H7 := lH ((hk1.block _ H7L.out).trans H7.out)
       have H7N := lH (show q7 ≠ W0.heap.size by have := H7L.out; omega)
       have H7L := lH (Nat.lt_of_lt_of_le H7L.out hk1.size)
       have J := lH (J.out.trans hk1)
       obtain ⟨q0, hq0⟩ : ∃ q, W0.heap.size = q := ⟨_, rfl⟩
       rw [hq0] at HO0 HG0 H7N
       try rw [hW1]
       try rw [hq0]
       clear hW1 hk1 hq0
       refine rdH (rs := [5]) (h := coH (fun K9 hK9 => ?_) AllReadyH.nil)
       refine step_app_own kindRP _ rfl (.tmp 25) (.tmp 29) rfl Z.heap.size (Nat.le_trans HBS.out J.out.size) q0 0 0 [] rfl HO0.out _ K0 (rowCells PodLay0 (lx.take K0)) rfl ?_ (rowCells_one _ _) (RowAt.src ((HRX.out.low hk0m).kept (JK.out.trans J.out))) (by unfold maxLen; omega) (by omega) ?_
       · rw [rowCells_length, List.length_take, HLEN.out, Nat.min_eq_left hk0m]; rfl
       rintro g5 c5 W2 ho5 hd5 hg5
       simp only [Nat.zero_add, List.nil_append] at ho5 ⊢
       have HO5 := lH (show Own PodLay0 69 W2 Z.heap.size (.slice (some ⟨g5, 0, none⟩) K0 c5) (lx.take K0) from ⟨by rw [List.length_take, HLEN.out, Nat.min_eq_left hk0m]; exact ho5, fun _ _ => trivial⟩)
       have JZ := lH (show Kept Z W2 from Below.trans (JK.out.trans J.out) hd5)
       have H7 := lH ((hg5.block q7 H7L.out (by intro e; exact H7N.out (Option.some.inj e))).trans H7.out)
       have H7L := lH (Nat.lt_of_lt_of_le H7L.out hg5.size)
       refine hK9.out _ _ (HF4.out _ JZ.out) (fun hHeld2 => ?_)
       clear hK9 K9 ho5 hd5 hg5
       try simp only [nP]
       refine rdH (rs := [8]) (h := coH (fun K9 hK9 => ?_) AllReadyH.nil)
       refine step_app_own kindRP _ rfl (.tmp 30) (.tmp 32) rfl Z.heap.size JZ.out.size g5 K0 c5 (rowCells PodLay0 (lx.take K0)) rfl (by have := HO5.out.1; rw [List.length_take, HLEN.out, Nat.min_eq_left hk0m] at this; exact this) _ 1 (PodLay0.cs (p, (pa1, pm1, pc1), (pa2, pm2, pc2), (pa3, pm3, pc3), (pa4, pm4, pc4))) rfl rfl (one_pod0 _) (src_new rfl H7.out) (by unfold maxLen; omega) (by omega) ?_
       rintro g8 c8 W3 ho8 hd8 hg8
       have HO8 := lH (show Own PodLay0 69 W3 Z.heap.size (.slice (some ⟨g8, 0, none⟩) (K0 + 1) c8) (lx.take K0 ++ [(p, (pa1, pm1, pc1), (pa2, pm2, pc2), (pa3, pm3, pc3), (pa4, pm4, pc4))]) from Own.snoc ho8 (by rw [List.length_take, HLEN.out, Nat.min_eq_left hk0m]) (fun _ _ => trivial) trivial)
       have JZ := lH (show Kept Z W3 from Below.trans JZ.out hd8)
       refine hK9.out _ _ (HF4.out _ JZ.out) (fun hHeld3 => ?_)
       clear hK9 K9 ho8 hd8 hg8
       try simp only [nP]
       refine tkH 9 (v := ?_) (y := Or.inl ⟨by rfl, (by rintro W ⟨o0, o1, o2, o3, o4, o5, o6, o7, o8, o9, o10, o11⟩; go_simp <;> with_reducible rfl)⟩) (h := ?_)
       try simp only [nP]
       refine wpAnyH_done (by kernel_rfl) ?_ _
       go_wp2
       go_meet
       case rel => exact ⟨g8, c8, rfl, lH ⟨HO8.out, JZ.out⟩⟩
    case rest =>
     obtain ⟨g, c6, rfl, hcut⟩ := hcut
     have HR6 := lH hcut.out.1
     have HK6 := lH hcut.out.2
     clear hcut
     have hkw0 : (0 : Int) ≤ (K0 : Int) := by omega
     go_upto_region 5 with fail
     have hkk : ¬ (K0 : Int) < (m : Int) := by omega
     have HF := lH (fun W (k : Kept wc W) => HF4.out W (HK6.out.trans k))
     refine wp_region_held_drew (S := fun W => W.cell? ⟨w.heap.size, 1, none⟩ = some (.slice b m cp) ∧ W.cell? ⟨w.heap.size + 1, 0, none⟩ = some (.string p.name) ∧ W.cell? ⟨w.heap.size + 1, 1, none⟩ = some (.string p.owner) ∧ W.cell? ⟨w.heap.size + 1, 2, none⟩ = some (.int .i64 p.prio) ∧ W.cell? ⟨w.heap.size + 1, 3, none⟩ = some (.slice pa1 pm1 pc1) ∧ W.cell? ⟨w.heap.size + 1, 4, none⟩ = some (.slice pa2 pm2 pc2) ∧ W.cell? ⟨w.heap.size + 1, 5, none⟩ = some (.slice pa3 pm3 pc3) ∧ W.cell? ⟨w.heap.size + 1, 6, none⟩ = some (.slice pa4 pm4 pc4) ∧ W.cell? ⟨w.heap.size + 1, 7, none⟩ = some (.string p.key) ∧ W.cell? ⟨w.heap.size + 1, 8, none⟩ = some (.int .i64 p.most) ∧ W.cell? ⟨w.heap.size + 1, 9, none⟩ = some (.string p.node) ∧ W.cell? ⟨w.heap.size + 1, 10, none⟩ = some (.bool p.hold)) (by kernel_rfl) (HF.out _ (Kept.drew _)) (fun hHeld => ?_)
     refine tkH 0 (v := ?_) (y := Or.inl ⟨by rfl, (by rintro W ⟨o0, o1, o2, o3, o4, o5, o6, o7, o8, o9, o10, o11⟩; go_simp <;> with_reducible rfl)⟩) (h := ?_)
     try simp only [nP]
     refine tkH 1 (v := ?_) (y := Or.inl ⟨by rfl, (by rintro W ⟨o0, o1, o2, o3, o4, o5, o6, o7, o8, o9, o10, o11⟩; go_simp <;> with_reducible rfl)⟩) (h := ?_)
     try simp only [nP]
     refine tkH 2 (v := ?_) (y := Or.inl ⟨by rfl, (by rintro W ⟨o0, o1, o2, o3, o4, o5, o6, o7, o8, o9, o10, o11⟩; go_simp <;> with_reducible rfl)⟩) (h := ?_)
     try simp only [nP]
     refine tkH 3 (v := ?_) (y := Or.inl ⟨by rfl, (by rintro W ⟨o0, o1, o2, o3, o4, o5, o6, o7, o8, o9, o10, o11⟩; go_simp <;> with_reducible rfl)⟩) (h := ?_)
     try simp only [nP]
     refine tkH 4 (v := ?_) (y := Or.inl ⟨by rfl, (by rintro W ⟨o0, o1, o2, o3, o4, o5, o6, o7, o8, o9, o10, o11⟩; go_simp <;> with_reducible rfl)⟩) (h := ?_)
     try simp only [nP]
     refine tkH 5 (v := ?_) (y := Or.inl ⟨by rfl, (by rintro W ⟨o0, o1, o2, o3, o4, o5, o6, o7, o8, o9, o10, o11⟩; go_simp <;> with_reducible rfl)⟩) (h := ?_)
     try simp only [nP]
     refine tkH 6 (v := undef) (y := Or.inr ⟨by rfl, rfl⟩) (h := ?_)
     try simp only [nP]
     refine tkH 7 (v := undef) (y := Or.inr ⟨by rfl, rfl⟩) (h := ?_)
     try simp only [nP]
     refine tkH 8 (v := undef) (y := Or.inr ⟨by rfl, rfl⟩) (h := ?_)
     try simp only [nP]
     refine tkH 9 (v := undef) (y := Or.inr ⟨by rfl, rfl⟩) (h := ?_)
     try simp only [nP]
     refine tkH 10 (v := undef) (y := Or.inr ⟨by rfl, rfl⟩) (h := ?_)
     try simp only [nP]
     refine tkH 11 (v := undef) (y := Or.inr ⟨by rfl, rfl⟩) (h := ?_)
     try simp only [nP]
     refine tkH 12 (v := undef) (y := Or.inr ⟨by rfl, rfl⟩) (h := ?_)
     try simp only [nP]
     refine tkH 13 (v := undef) (y := Or.inr ⟨by rfl, rfl⟩) (h := ?_)
     try simp only [nP]
     refine tkH 14 (v := undef) (y := Or.inr ⟨by rfl, rfl⟩) (h := ?_)
     try simp only [nP]
     refine tkH 15 (v := ?_) (y := Or.inl ⟨by rfl, (by rintro W ⟨o0, o1, o2, o3, o4, o5, o6, o7, o8, o9, o10, o11⟩; go_simp <;> with_reducible rfl)⟩) (h := ?_)
     try simp only [nP]
     refine wpAnyH_done (by kernel_rfl) ?_ _
     have hkh : KH = 0 := by rw [← HKH.out]; exact hitP_end (by rw [HPL.out]; omega)
     go_upto_region 7 with fail
     obtain ⟨wq, hwq⟩ : ∃ W, wc.drew = W := ⟨_, rfl⟩
     have hkd : Kept wc wq := by rw [← hwq]; exact Kept.drew _
     try rw [hwq]
     clear hwq
     have HR6 := lH (HR6.out.kept hkd)
     have HK6 := lH (HK6.out.trans hkd)
     clear hkd
     obtain ⟨KQ, hKQ⟩ : ∃ q : Nat, q = K0 := ⟨_, rfl⟩
     have hcast : (K0 : Int) = (KQ : Int) := by rw [hKQ]
     rw [hcast]
     have HKQ := lH (show K0 + KH = KQ by rw [hkh]; exact hKQ.symm)
     have hkqm : KQ ≤ m := by omega
     clear hKQ hcast hkh
     rcases HRX.out.form with h0 | ⟨b9, off, rfl⟩
     · have H0 := lH h0
       clear h0
       have hqI : ((KQ : Int)).toNat = KQ := by omega
       have hq0i : (0 : Int) ≤ (KQ : Int) := by omega
       have hqmI : (KQ : Int) ≤ (m : Int) := by omega
       have hqcI : KQ ≤ cp := by have := HCAP.out; omega
       go_upto_region 7 with fail
       have J := lH (Kept.drew wq)
       refine wp_region_held_drew (S := fun W => W.cell? ⟨w.heap.size, 0, none⟩ = some (.slice a len cap) ∧ W.cell? ⟨w.heap.size, 1, none⟩ = some (.slice b m cp) ∧ W.cell? ⟨w.heap.size, 2, none⟩ = some (.slice d n cb)) (by kernel_rfl) (HF3.out _ (HK6.out.trans J.out)) (fun hHeld => ?_)
       refine tkH 0 (v := ?_) (y := Or.inl ⟨by rfl, (by rintro W ⟨o0, o1, o2⟩; go_simp <;> with_reducible rfl)⟩) (h := ?_)
       try simp only [nP]
       refine tkH 1 (v := ?_) (y := Or.inl ⟨by rfl, (by rintro W ⟨o0, o1, o2⟩; go_simp <;> with_reducible rfl)⟩) (h := ?_)
       try simp only [nP]
       refine tkH 2 (v := ?_) (y := Or.inl ⟨by rfl, (by rintro W ⟨o0, o1, o2⟩; go_simp <;> with_reducible rfl)⟩) (h := ?_)
       try simp only [nP]
       refine tkH 3 (v := ?_) (y := Or.inl ⟨by rfl, (by rintro W ⟨o0, o1, o2⟩; go_simp <;> with_reducible rfl)⟩) (h := ?_)
       try simp only [nP]
       refine tkH 4 (v := ?_) (y := Or.inl ⟨by rfl, (by rintro W ⟨o0, o1, o2⟩; go_simp <;> with_reducible rfl)⟩) (h := ?_)
       try simp only [nP]
       refine tkH 5 (v := ?_) (y := Or.inl ⟨by rfl, (by rintro W ⟨o0, o1, o2⟩; go_simp <;> with_reducible rfl)⟩) (h := ?_)
       try simp only [nP]
       refine rdH (rs := [6]) (h := coH (fun K9 hK9 => ?_) AllReadyH.nil)
       refine step_app_own kindRP _ rfl (.tmp 53) (.tmp 57) rfl Z.heap.size (HK6.out.trans J.out).size g (K0 + 1) c6 (rowCells PodLay0 (lx.take K0 ++ [(p, (pa1, pm1, pc1), (pa2, pm2, pc2), (pa3, pm3, pc3), (pa4, pm4, pc4))])) rfl (by have := (HR6.out.kept J.out).1; rw [List.length_append, List.length_take, HLEN.out, Nat.min_eq_left hk0m] at this; exact this) _ (m - KQ) (rowCells PodLay0 (lx.drop KQ)) rfl ?_ (rowCells_one _ _) ?_ (by unfold maxLen; omega) (by omega) ?_
       · rw [rowCells_length, List.length_drop, HLEN.out]; rfl
       · have h1 : KQ = 0 := by have := H0.out; omega
         have h2 : lx.drop KQ = [] := List.eq_nil_of_length_eq_zero (by have := H0.out; rw [List.length_drop, HLEN.out]; omega)
         rw [h2, show m - KQ = 0 by have := H0.out; omega]
         exact src_none
       rintro g9 c9 W6 ho9 hd9 hg9
       have JZ := lH (show Kept Z W6 from Below.trans (HK6.out.trans J.out) hd9)
       have HPR := lH (show PodsR W6 (.slice (some ⟨g9, 0, none⟩) (K0 + 1 + (m - KQ)) c9) (rputP p s.pods) by
        have h9 := pods_own (put_row ho9 (by rw [List.length_append, List.length_take, HLEN.out, Nat.min_eq_left hk0m, List.length_drop, HLEN.out]; rfl)) (fun z hz => by
         rcases List.mem_append.1 hz with hz | hz
         · rcases List.mem_append.1 hz with hz | hz
           · exact PodAt.kept (HAT.out z (List.mem_of_mem_take hz)) JZ.out
           · obtain rfl := List.mem_singleton.1 hz
             exact PodAt.kept HPT.out JZ.out
         · exact PodAt.kept (HAT.out z (List.mem_of_mem_drop hz)) JZ.out)
        rw [List.map_append, List.map_append, List.map_take, List.map_drop, HLX.out] at h9
        unfold rputP
        rw [HK0.out, HKH.out, HKQ.out]
        simpa using h9)
       refine hK9.out _ _ (HF3.out _ JZ.out) (fun hHeld1 => ?_)
       clear hK9 K9 ho9 hd9 hg9
       try simp only [nP]
       refine rdH (rs := [7]) (h := coH (fun K9 hK9 => ?_) AllReadyH.nil)
       go_simp
       obtain ⟨m9, hm9⟩ : ∃ q, K0 + 1 + (m - KQ) = q := ⟨_, rfl⟩
       rw [hm9] at HPR
       try rw [hm9]
       clear hm9
       refine (rwithR (HV.out.kept JZ.out) HPR.out).mono ?_
       rintro e w9 ⟨y9, rfl, hy, kk⟩
       have hy0 := hy
       obtain ⟨_, _, _, rfl, ⟨g1, r1, rfl, -, -, -⟩, ⟨g2, r2, rfl, -, -, -⟩, ⟨g3, r3, rfl, -, -, -⟩⟩ := hy0
       have JZ := lH (JZ.out.trans kk)
       obtain ⟨t1, ht1⟩ : ∃ q, ({ s with pods := rputP p s.pods } : Clu).nodes.length = q := ⟨_, rfl⟩
       rw [ht1] at hy
       try rw [ht1]
       clear ht1
       obtain ⟨t2, ht2⟩ : ∃ q, ({ s with pods := rputP p s.pods } : Clu).pods.length = q := ⟨_, rfl⟩
       rw [ht2] at hy
       try rw [ht2]
       clear ht2
       obtain ⟨t3, ht3⟩ : ∃ q, ({ s with pods := rputP p s.pods } : Clu).buds.length = q := ⟨_, rfl⟩
       rw [ht3] at hy
       try rw [ht3]
       clear ht3
       have HY := lH hy
       clear hy kk
       refine hK9.out _ _ (HF3.out _ JZ.out) (fun hHeld1 => ?_)
       clear hK9 K9
       try simp only [nP]
       have H9 := lH (HH.out.kept JZ.out)
       have z0 := H9.out.at_ 0 _ rfl
       have z1 := H9.out.at_ 1 _ rfl
       have z2 := H9.out.at_ 2 _ rfl
       have f0 := H9.out.free 0
       have f1 := H9.out.free 1
       have f2 := H9.out.free 2
       have PP := lH (putN (vs := [.slice g1 t1 r1, .slice g2 t2 r2, .slice g3 t3 r3]) H9.out rfl)
       refine rdH (rs := [8]) (h := coH (fun K9 hK9 => ?_) AllReadyH.nil)
       go_simp
       obtain ⟨WE, hWE⟩ : ∃ W, w9.setCells (w.heap.size + 2) 0 [.slice g1 t1 r1, .slice g2 t2 r2, .slice g3 t3 r3] = W := ⟨_, rfl⟩
       have hWE2 : (((w9.setCell ⟨(w.heap.size + 2), 0, none⟩ (.slice g1 t1 r1)).setCell ⟨(w.heap.size + 2), 1, none⟩ (.slice g2 t2 r2)).setCell ⟨(w.heap.size + 2), 2, none⟩ (.slice g3 t3 r3)) = WE := hWE
       rw [hWE] at PP
       try rw [hWE2]
       clear hWE hWE2
       obtain ⟨PC, hsz, hbl, hkp⟩ := PP.out
       refine hK9.out _ _ (HF5.out _ _ hbl JZ.out) (fun hHeldS => ?_)
       clear hK9 K9 z0 z1 z2 f0 f1 f2
       try simp only [nP]
       refine wpAnyH_done (by kernel_rfl) ?_ _
       skip
       skip
       skip
       go_wp2
       all_goals refine bodyPost_ret (by simp [results, Tryz.results25, go_sem, PC.at_ 0 _ rfl, PC.at_ 1 _ rfl, PC.at_ 2 _ rfl]; try rfl) rfl ?_
       all_goals exact ⟨_, rfl, clu_pastS hsz hbl (HSL.out _ JZ.out) HY.out, hkp _ _ (Nat.le_add_right _ _) (HKZ.out.trans JZ.out)⟩
     · skip
       have hqI : ((KQ : Int)).toNat = KQ := by omega
       have hq0i : (0 : Int) ≤ (KQ : Int) := by omega
       have hqmI : (KQ : Int) ≤ (m : Int) := by omega
       have hqcI : KQ ≤ cp := by have := HCAP.out; omega
       go_upto_region 7 with fail
       have J := lH (Kept.drew wq)
       refine wp_region_held_drew (S := fun W => W.cell? ⟨w.heap.size, 0, none⟩ = some (.slice a len cap) ∧ W.cell? ⟨w.heap.size, 1, none⟩ = some (.slice (some ⟨b9, off, none⟩) m cp) ∧ W.cell? ⟨w.heap.size, 2, none⟩ = some (.slice d n cb)) (by kernel_rfl) (HF3.out _ (HK6.out.trans J.out)) (fun hHeld => ?_)
       refine tkH 0 (v := ?_) (y := Or.inl ⟨by rfl, (by rintro W ⟨o0, o1, o2⟩; go_simp <;> with_reducible rfl)⟩) (h := ?_)
       try simp only [nP]
       refine tkH 1 (v := ?_) (y := Or.inl ⟨by rfl, (by rintro W ⟨o0, o1, o2⟩; go_simp <;> with_reducible rfl)⟩) (h := ?_)
       try simp only [nP]
       refine tkH 2 (v := ?_) (y := Or.inl ⟨by rfl, (by rintro W ⟨o0, o1, o2⟩; go_simp <;> with_reducible rfl)⟩) (h := ?_)
       try simp only [nP]
       refine tkH 3 (v := ?_) (y := Or.inl ⟨by rfl, (by rintro W ⟨o0, o1, o2⟩; go_simp <;> with_reducible rfl)⟩) (h := ?_)
       try simp only [nP]
       refine tkH 4 (v := ?_) (y := Or.inl ⟨by rfl, (by rintro W ⟨o0, o1, o2⟩; go_simp <;> with_reducible rfl)⟩) (h := ?_)
       try simp only [nP]
       refine tkH 5 (v := ?_) (y := Or.inl ⟨by rfl, (by rintro W ⟨o0, o1, o2⟩; go_simp <;> with_reducible rfl)⟩) (h := ?_)
       try simp only [nP]
       refine rdH (rs := [6]) (h := coH (fun K9 hK9 => ?_) AllReadyH.nil)
       refine step_app_own kindRP _ rfl (.tmp 53) (.tmp 57) rfl Z.heap.size (HK6.out.trans J.out).size g (K0 + 1) c6 (rowCells PodLay0 (lx.take K0 ++ [(p, (pa1, pm1, pc1), (pa2, pm2, pc2), (pa3, pm3, pc3), (pa4, pm4, pc4))])) rfl (by have := (HR6.out.kept J.out).1; rw [List.length_append, List.length_take, HLEN.out, Nat.min_eq_left hk0m] at this; exact this) _ (m - KQ) (rowCells PodLay0 (lx.drop KQ)) rfl ?_ (rowCells_one _ _) ?_ (by unfold maxLen; omega) (by omega) ?_
       · rw [rowCells_length, List.length_drop, HLEN.out]; rfl
       · exact src_from (HRX.out.kept (HK6.out.trans J.out)) hkqm HCAP.out
       rintro g9 c9 W6 ho9 hd9 hg9
       have JZ := lH (show Kept Z W6 from Below.trans (HK6.out.trans J.out) hd9)
       have HPR := lH (show PodsR W6 (.slice (some ⟨g9, 0, none⟩) (K0 + 1 + (m - KQ)) c9) (rputP p s.pods) by
        have h9 := pods_own (put_row ho9 (by rw [List.length_append, List.length_take, HLEN.out, Nat.min_eq_left hk0m, List.length_drop, HLEN.out]; rfl)) (fun z hz => by
         rcases List.mem_append.1 hz with hz | hz
         · rcases List.mem_append.1 hz with hz | hz
           · exact PodAt.kept (HAT.out z (List.mem_of_mem_take hz)) JZ.out
           · obtain rfl := List.mem_singleton.1 hz
             exact PodAt.kept HPT.out JZ.out
         · exact PodAt.kept (HAT.out z (List.mem_of_mem_drop hz)) JZ.out)
        rw [List.map_append, List.map_append, List.map_take, List.map_drop, HLX.out] at h9
        unfold rputP
        rw [HK0.out, HKH.out, HKQ.out]
        simpa using h9)
       refine hK9.out _ _ (HF3.out _ JZ.out) (fun hHeld1 => ?_)
       clear hK9 K9 ho9 hd9 hg9
       try simp only [nP]
       refine rdH (rs := [7]) (h := coH (fun K9 hK9 => ?_) AllReadyH.nil)
       go_simp
       obtain ⟨m9, hm9⟩ : ∃ q, K0 + 1 + (m - KQ) = q := ⟨_, rfl⟩
       rw [hm9] at HPR
       try rw [hm9]
       clear hm9
       refine (rwithR (HV.out.kept JZ.out) HPR.out).mono ?_
       rintro e w9 ⟨y9, rfl, hy, kk⟩
       have hy0 := hy
       obtain ⟨_, _, _, rfl, ⟨g1, r1, rfl, -, -, -⟩, ⟨g2, r2, rfl, -, -, -⟩, ⟨g3, r3, rfl, -, -, -⟩⟩ := hy0
       have JZ := lH (JZ.out.trans kk)
       obtain ⟨t1, ht1⟩ : ∃ q, ({ s with pods := rputP p s.pods } : Clu).nodes.length = q := ⟨_, rfl⟩
       rw [ht1] at hy
       try rw [ht1]
       clear ht1
       obtain ⟨t2, ht2⟩ : ∃ q, ({ s with pods := rputP p s.pods } : Clu).pods.length = q := ⟨_, rfl⟩
       rw [ht2] at hy
       try rw [ht2]
       clear ht2
       obtain ⟨t3, ht3⟩ : ∃ q, ({ s with pods := rputP p s.pods } : Clu).buds.length = q := ⟨_, rfl⟩
       rw [ht3] at hy
       try rw [ht3]
       clear ht3
       have HY := lH hy
       clear hy kk
       refine hK9.out _ _ (HF3.out _ JZ.out) (fun hHeld1 => ?_)
       clear hK9 K9
       try simp only [nP]
       have H9 := lH (HH.out.kept JZ.out)
       have z0 := H9.out.at_ 0 _ rfl
       have z1 := H9.out.at_ 1 _ rfl
       have z2 := H9.out.at_ 2 _ rfl
       have f0 := H9.out.free 0
       have f1 := H9.out.free 1
       have f2 := H9.out.free 2
       have PP := lH (putN (vs := [.slice g1 t1 r1, .slice g2 t2 r2, .slice g3 t3 r3]) H9.out rfl)
       refine rdH (rs := [8]) (h := coH (fun K9 hK9 => ?_) AllReadyH.nil)
       go_simp
       obtain ⟨WE, hWE⟩ : ∃ W, w9.setCells (w.heap.size + 2) 0 [.slice g1 t1 r1, .slice g2 t2 r2, .slice g3 t3 r3] = W := ⟨_, rfl⟩
       have hWE2 : (((w9.setCell ⟨(w.heap.size + 2), 0, none⟩ (.slice g1 t1 r1)).setCell ⟨(w.heap.size + 2), 1, none⟩ (.slice g2 t2 r2)).setCell ⟨(w.heap.size + 2), 2, none⟩ (.slice g3 t3 r3)) = WE := hWE
       rw [hWE] at PP
       try rw [hWE2]
       clear hWE hWE2
       obtain ⟨PC, hsz, hbl, hkp⟩ := PP.out
       refine hK9.out _ _ (HF5.out _ _ hbl JZ.out) (fun hHeldS => ?_)
       clear hK9 K9 z0 z1 z2 f0 f1 f2
       try simp only [nP]
       refine wpAnyH_done (by kernel_rfl) ?_ _
       obtain ⟨A2, hA2⟩ : ∃ A, (if cp = KQ then some (⟨b9, off, none⟩ : Addr) else some ⟨b9, off + KQ * 11, none⟩) = A := ⟨_, rfl⟩
       try rw [hA2]
       clear hA2
       go_wp2
       refine bodyPost_ret (by simp [results, Tryz.results25, go_sem, PC.at_ 0 _ rfl, PC.at_ 1 _ rfl, PC.at_ 2 _ rfl]; try rfl) rfl ?_
       exact ⟨_, rfl, clu_pastS hsz hbl (HSL.out _ JZ.out) HY.out, hkp _ _ (Nat.le_add_right _ _) (HKZ.out.trans JZ.out)⟩
end Go.Proofs.YtfpgekjhcfoohaaGreat
