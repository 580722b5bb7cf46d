/- What all nodes have in use and have left is what they have; a pod that is moved takes its need along: the law, walked. -/
import Derived.Test.YtfpgekjhcfoohabGreatStRoomM
import Derived.Test.YtfpgekjhcfoohabGreatStFaceR
import Derived.Test.YtfpgekjhcfoohabGreatStD
import Derived.Test.YtfpgekjhcfoohabGreatStE
import Derived.Test.YtfpgekjhcfoohabGreatResA
import Derived.Deep.RegionHeld3
namespace Go.Proofs.YtfpgekjhcfoohabGreat
open Go.RowKit
set_option linter.unusedVariables false

theorem rem_nat {n : Int} {m : Nat} (h : 0 ≤ n ∧ n ≤ 255) (hm : 0 < m) : ∃ k : Nat, k < m ∧ n.tmod (m : Int) = (k : Int) := by
  obtain ⟨j, rfl⟩ := Int.eq_ofNat_of_zero_le h.1
  exact ⟨j % m, Nat.mod_lt _ hm, rfl⟩
theorem nodes_ofR {a : Option Addr} {n c : Nat} {l : List Nod} {w : World} (h : NodesR w (.slice a n c) l) : NodesAt w a n l := by
  obtain ⟨a', cap', e, _, _, h⟩ := h
  cases e
  exact h
theorem CluR.nodesAt {w : World} {v2 v3 : Value} {b : Option Addr} {m cp : Nat} {s : Clu} (h : CluR w (CluV (.slice b m cp) v2 v3) s) : NodesAt w b m s.nodes := by
  obtain ⟨_, _, _, e, g0⟩ := h
  cases e
  exact nodes_ofR g0.nodes
theorem CluR.podsAt' {w : World} {v1 v3 : Value} {b : Option Addr} {m cp : Nat} {s : Clu} (h : CluR w (CluV v1 (.slice b m cp) v3) s) : PodsAt w b m s.pods := by
  obtain ⟨_, _, _, e, g0⟩ := h
  cases e
  exact pods_ofR g0.pods
theorem moveStR' {v : Value} {s : Clu} {w : World} (h : CluR w v s) (x y : ByteArray) (hy : y.size ≤ maxLen) (hl : LowClu s) : Calls Tryz.prog 26 #[v, .string x, .string y] w (TellsS (moveSt s x y) w) := by
  obtain ⟨v1, v2, v3, rfl, ⟨a, cap, rfl, l1, m1, h1⟩, ⟨b, cp, rfl, l2, m2, h2⟩, ⟨d, cb, rfl, l3, m3, h3⟩⟩ := h
  refine (moveSt_any a b d _ cap _ cp _ cb s.nodes s.pods s.buds x y w hy h1 h2 h3 l1 m1 l2 m2 l3 m3 hl).mono ?_
  rintro e w' ⟨_, _, _, _, _, _, _, _, _, rfl, ho, kk⟩
  exact ⟨_, rfl, ho.toR, kk⟩
theorem addVR {v v' : Value} {l l' m : Vec.V} {c : Int} {w : World} (h : Vec.Reads w v l) (h' : Vec.Reads w v' l') (e : Vec.mergedV Vec.addF l l' = (c, m)) : Calls Tryz.prog 24 #[v, v'] w (RVec (c, m) w) := by
  rw [← e]
  exact (addD h h').mono fun _ _ g => done_told g
theorem samVR {v v' : Value} {l l' : Vec.V} {c : Bool} {w : World} (h : Vec.Reads w v l) (h' : Vec.Reads w v' l') (e : Vec.sameFrom l l' = c) : Calls Tryz.prog 25 #[v, v'] w (Say (.bool c) w) := by
  subst e
  obtain ⟨a, cap, rfl, h1, h2, h3⟩ := h
  obtain ⟨a', cap', rfl, h1', h2', h3'⟩ := h'
  exact Vec.same_any a a' _ cap _ cap' l l' w h3 h3'
set_option maxRecDepth 100000 in
set_option maxHeartbeats 25600000 in
theorem StateRoom_walk (v : Value) (s : Clu) (n1 n2 : Int) (w : World) (h : CluR w v s) (h1 : (Lit.int .u8 n1).wf = true) (h2 : (Lit.int .u8 n2).wf = true) : Calls Tryz.prog 4 #[v, .int .u8 n1, .int .u8 n2] w fun e w' => e = .returned (.bool true) ∧ Kept w w' := by
  have hs0 := h
  obtain ⟨_, _, _, rfl, ⟨sa1, sc1, rfl, -, -, -⟩, ⟨sa2, sc2, rfl, -, -, -⟩, ⟨sa3, sc3, rfl, -, -, -⟩⟩ := hs0
  obtain ⟨sl1, hsl1⟩ : ∃ q, (s).nodes.length = q := ⟨_, rfl⟩
  rw [hsl1] at h
  try rw [hsl1]
  obtain ⟨sl2, hsl2⟩ : ∃ q, (s).pods.length = q := ⟨_, rfl⟩
  rw [hsl2] at h
  try rw [hsl2]
  obtain ⟨sl3, hsl3⟩ : ∃ q, (s).buds.length = q := ⟨_, rfl⟩
  rw [hsl3] at h
  try rw [hsl3]
  have HL1 := Lib.hid hsl1
  have HL2 := Lib.hid hsl2
  clear hsl1 hsl2 hsl3
  have HN1 := Lib.hid (bounds_u8 h1)
  have HN2 := Lib.hid (bounds_u8 h2)
  clear h1 h2
  obtain ⟨Z, hZ⟩ : ∃ Z, w.alloc (.cells #[.slice sa1 sl1 sc1, .slice sa2 sl2 sc2, .slice sa3 sl3 sc3] 26) = Z := ⟨_, rfl⟩
  have hkz : Kept w Z := by rw [← hZ]; exact kept_alloc _ _
  have HQS := Lib.hid (show CellsN w.heap.size [.slice sa1 sl1 sc1, .slice sa2 sl2 sc2, .slice sa3 sl3 sc3] Z from freshN w (.slice sa1 sl1 sc1) [.slice sa2 sl2 sc2, .slice sa3 sl3 sc3] 26 Z (by rw [hZ]; exact Kept.refl _))
  have HS := Lib.hid (h.kept hkz)
  have HKZ := Lib.hid hkz
  clear h hkz
  try unfold CluV at HS
  have K := Lib.hid (Kept.refl Z)
  go_enter Tryz.func4, Tryz.ntmps4
  go_wp2_with fail
  try rw [hZ]
  clear hZ
  refine (knownSt_any Z).mono ?_
  rintro e w1 ⟨rfl, kk⟩
  have HQS := Lib.hid (HQS.out.kept kk)
  have HS := Lib.hid (HS.out.kept kk)
  have K := Lib.hid (K.out.trans kk)
  clear kk
  obtain ⟨e1, he1⟩ : ∃ e, goodSt s = e := ⟨_, rfl⟩
  have HE1 := Lib.hid he1
  have sq0 := HQS.out.at_ 0 _ rfl
  have sq1 := HQS.out.at_ 1 _ rfl
  have sq2 := HQS.out.at_ 2 _ rfl
  go_wp2_with fail
  refine (goodStR HS.out he1).mono ?_
  rintro e w2 ⟨rfl, kk⟩
  have HQS := Lib.hid (HQS.out.kept kk)
  have HS := Lib.hid (HS.out.kept kk)
  have K := Lib.hid (K.out.trans kk)
  clear kk he1
  clear sq0 sq1 sq2
  have sq0 := HQS.out.at_ 0 _ rfl
  have sq1 := HQS.out.at_ 1 _ rfl
  have sq2 := HQS.out.at_ 2 _ rfl
  cases e1 with
  | false =>
    go_wp2
    go_ret
    exact ⟨rfl, HKZ.out.trans K.out⟩
  | true =>
    by_cases hpi : (sl2 : Int) < 1
    · skip
      go_wp2
      go_ret
      exact ⟨rfl, HKZ.out.trans K.out⟩
    by_cases hni : (sl1 : Int) < 1
    · skip
      go_wp2
      go_ret
      exact ⟨rfl, HKZ.out.trans K.out⟩
    have HL := Lib.hid (few_lowS (good_few HE1.out)).1
    have HSN := Lib.hid (sound_of HE1.out HS.out)
    have HNA := Lib.hid HS.out.nodesAt
    have HPA := Lib.hid HS.out.podsAt'
    have HPI := Lib.hid (show 0 < sl2 by omega)
    have HNI := Lib.hid (show 0 < sl1 by omega)
    have HB34 := Lib.hid (few_lowS (good_few HE1.out)).2
    have hsl1b : sl1 ≤ 34 := by have h1 := HB34.out.1; have h2 := HL1.out; omega
    have hsl2b : sl2 ≤ 130 := by have h1 := HB34.out.2.1; have h2 := HL2.out; omega
    go_wp2
    go_loopw [7] (fun i wr => ∃ k : Nat, k ≤ sl1 ∧ i = .int .i64 k ∧ Kept w2 wr) (fun i _ => sl1 - (intOf i).toNat)
    case atStart => exact ⟨0, Nat.zero_le _, rfl, Kept.refl _⟩
    case round =>
      clear sq0 sq1 sq2
      obtain ⟨k, hk, rfl, hK⟩ := hrel
      have HQS := Lib.hid (HQS.out.kept hK)
      have HS := Lib.hid (HS.out.kept hK)
      have HNA := Lib.hid (HNA.out.kept hK)
      have HPA := Lib.hid (HPA.out.kept hK)
      have K := Lib.hid (K.out.trans hK)
      have HKR := Lib.hid hK
      clear hK
      have sq0 := HQS.out.at_ 0 _ rfl
      have sq1 := HQS.out.at_ 1 _ rfl
      have sq2 := HQS.out.at_ 2 _ rfl
      by_cases hlt : k < sl1
      · have hkk : (k : Int) < (sl1 : Int) := by omega
        have hk0 : ¬ (k : Int) < 0 := by omega
        obtain ⟨b8, off, rfl⟩ := HNA.out.form.resolve_left (by omega)
        obtain ⟨n9, x1, y1, z1, x2, y2, z2, x3, y3, z3, hn, hd, hb, p0, p1, p2, p3, p4, hat⟩ := HNA.out.at_ hlt
        have HMEM := Lib.hid (List.mem_of_getElem? hn)
        obtain ⟨u, fv, hu, hf, hadd, -, -, -, -, -⟩ := room_at HSN.out HMEM.out
        have HCAP := Lib.hid hat.cap
        have HF := Lib.hid (show ∀ W, Kept wr W → W.cell? ⟨w.heap.size, 0, none⟩ = some (.slice (some ⟨b8, off, none⟩) sl1 sc1) ∧ W.cell? ⟨w.heap.size, 1, none⟩ = some (.slice sa2 sl2 sc2) ∧ W.cell? ⟨w.heap.size, 2, none⟩ = some (.slice sa3 sl3 sc3) ∧ W.cell? ⟨b8, off + k * 5, none⟩ = some (.string n9.name) ∧ W.cell? ⟨b8, off + k * 5 + 1, none⟩ = some (.slice x1 y1 z1) ∧ W.cell? ⟨b8, off + k * 5 + 2, none⟩ = some (.slice x2 y2 z2) ∧ W.cell? ⟨b8, off + k * 5 + 3, none⟩ = some (.slice x3 y3 z3) ∧ W.cell? ⟨b8, off + k * 5 + 4, none⟩ = some (.bool n9.cordon) from fun W kk => ⟨cell_later kk (HQS.out.at_ 0 _ rfl), cell_later kk (HQS.out.at_ 1 _ rfl), cell_later kk (HQS.out.at_ 2 _ rfl), cell_later kk p0, cell_later kk p1, cell_later kk p2, cell_later kk p3, cell_later kk p4⟩)
        go_upto_region 8 with fail
        clear hat hn hd hb p0 p1 p2 p3 p4 sq0 sq1 sq2
        have J := Lib.hid (Kept.drew wr)
        have HU := Lib.hid hu
        have HFR := Lib.hid hf
        have HADD := Lib.hid hadd
        clear hu hf hadd
        refine wp_region_held_drew (S := fun W => W.cell? ⟨w.heap.size, 0, none⟩ = some (.slice (some ⟨b8, off, none⟩) sl1 sc1) ∧ W.cell? ⟨w.heap.size, 1, none⟩ = some (.slice sa2 sl2 sc2) ∧ W.cell? ⟨w.heap.size, 2, none⟩ = some (.slice sa3 sl3 sc3) ∧ W.cell? ⟨b8, off + k * 5, none⟩ = some (.string n9.name) ∧ W.cell? ⟨b8, off + k * 5 + 1, none⟩ = some (.slice x1 y1 z1) ∧ W.cell? ⟨b8, off + k * 5 + 2, none⟩ = some (.slice x2 y2 z2) ∧ W.cell? ⟨b8, off + k * 5 + 3, none⟩ = some (.slice x3 y3 z3) ∧ W.cell? ⟨b8, off + k * 5 + 4, none⟩ = some (.bool n9.cordon)) (by kernel_rfl) (HF.out _ J.out) (fun hHeld => ?_)
        refine wpAnyH_take (i := 0) (v := ?_) (by rw [List.getElem?_toArray]; exact rfl) (by kernel_rfl) (by kernel_rfl) (by kernel_rfl) (by exact fun _ _ _ h => h) (Or.inl ⟨by rfl, (by intro W hSw; obtain ⟨o0, o1, o2, o3, o4, o5, o6, o7⟩ := hSw; go_simp <;> with_reducible rfl)⟩) (by assumption) ?_
        try simp only [Act.put, List.setIfInBounds_toArray, List.set_cons_zero, List.set_cons_succ]
        refine wpAnyH_take (i := 1) (v := ?_) (by rw [List.getElem?_toArray]; exact rfl) (by kernel_rfl) (by kernel_rfl) (by kernel_rfl) (by exact fun _ _ _ h => h) (Or.inl ⟨by rfl, (by intro W hSw; obtain ⟨o0, o1, o2, o3, o4, o5, o6, o7⟩ := hSw; go_simp <;> with_reducible rfl)⟩) (by assumption) ?_
        try simp only [Act.put, List.setIfInBounds_toArray, List.set_cons_zero, List.set_cons_succ]
        refine wpAnyH_take (i := 2) (v := ?_) (by rw [List.getElem?_toArray]; exact rfl) (by kernel_rfl) (by kernel_rfl) (by kernel_rfl) (by exact fun _ _ _ h => h) (Or.inl ⟨by rfl, (by intro W hSw; obtain ⟨o0, o1, o2, o3, o4, o5, o6, o7⟩ := hSw; go_simp <;> with_reducible rfl)⟩) (by assumption) ?_
        try simp only [Act.put, List.setIfInBounds_toArray, List.set_cons_zero, List.set_cons_succ]
        refine wpAnyH_take (i := 3) (v := ?_) (by rw [List.getElem?_toArray]; exact rfl) (by kernel_rfl) (by kernel_rfl) (by kernel_rfl) (by exact fun _ _ _ h => h) (Or.inl ⟨by rfl, (by intro W hSw; obtain ⟨o0, o1, o2, o3, o4, o5, o6, o7⟩ := hSw; go_simp <;> with_reducible rfl)⟩) (by assumption) ?_
        try simp only [Act.put, List.setIfInBounds_toArray, List.set_cons_zero, List.set_cons_succ]
        refine wpAnyH_take (i := 4) (v := ?_) (by rw [List.getElem?_toArray]; exact rfl) (by kernel_rfl) (by kernel_rfl) (by kernel_rfl) (by exact fun _ _ _ h => h) (Or.inl ⟨by rfl, (by intro W hSw; obtain ⟨o0, o1, o2, o3, o4, o5, o6, o7⟩ := hSw; go_simp <;> with_reducible rfl)⟩) (by assumption) ?_
        try simp only [Act.put, List.setIfInBounds_toArray, List.set_cons_zero, List.set_cons_succ]
        refine wpAnyH_take (i := 5) (v := ?_) (by rw [List.getElem?_toArray]; exact rfl) (by kernel_rfl) (by kernel_rfl) (by kernel_rfl) (by exact fun _ _ _ h => h) (Or.inl ⟨by rfl, (by intro W hSw; obtain ⟨o0, o1, o2, o3, o4, o5, o6, o7⟩ := hSw; go_simp <;> with_reducible rfl)⟩) (by assumption) ?_
        try simp only [Act.put, List.setIfInBounds_toArray, List.set_cons_zero, List.set_cons_succ]
        refine wpAnyH_take (i := 6) (v := ?_) (by rw [List.getElem?_toArray]; exact rfl) (by kernel_rfl) (by kernel_rfl) (by kernel_rfl) (by exact fun _ _ _ h => h) (Or.inl ⟨by rfl, (by intro W hSw; obtain ⟨o0, o1, o2, o3, o4, o5, o6, o7⟩ := hSw; go_simp <;> with_reducible rfl)⟩) (by assumption) ?_
        try simp only [Act.put, List.setIfInBounds_toArray, List.set_cons_zero, List.set_cons_succ]
        refine wpAnyH_ready (rs := [7]) (by kernel_rfl) (by simp) (AllReadyH.cons (by rw [List.getElem?_toArray]; exact rfl) (fun K9 hK9 => ?_) AllReadyH.nil)
        go_simp
        refine (usedR (HS.out.kept J.out) n9.name HL.out).mono ?_
        rw [HU.out]
        rintro e r1 ⟨v1, rfl, hy, kk⟩
        have J := Lib.hid (J.out.trans kk)
        have HY1 := Lib.hid (show Vec.Reads r1 v1 u from hy)
        clear hy kk
        refine hK9.out _ _ (HF.out _ J.out) (fun hHeld1 => ?_)
        clear hK9 K9
        try simp only [Act.put, List.setIfInBounds_toArray, List.set_cons_zero, List.set_cons_succ]
        refine wpAnyH_take (i := 8) (v := ?_) (by rw [List.getElem?_toArray]; exact rfl) (by kernel_rfl) (by kernel_rfl) (by kernel_rfl) (by exact fun _ _ _ h => h) (Or.inl ⟨by rfl, (by intro W hSw; obtain ⟨o0, o1, o2, o3, o4, o5, o6, o7⟩ := hSw; go_simp <;> with_reducible rfl)⟩) (by assumption) ?_
        try simp only [Act.put, List.setIfInBounds_toArray, List.set_cons_zero, List.set_cons_succ]
        refine wpAnyH_take (i := 9) (v := ?_) (by rw [List.getElem?_toArray]; exact rfl) (by kernel_rfl) (by kernel_rfl) (by kernel_rfl) (by exact fun _ _ _ h => h) (Or.inl ⟨by rfl, (by intro W hSw; obtain ⟨o0, o1, o2, o3, o4, o5, o6, o7⟩ := hSw; go_simp <;> with_reducible rfl)⟩) (by assumption) ?_
        try simp only [Act.put, List.setIfInBounds_toArray, List.set_cons_zero, List.set_cons_succ]
        refine wpAnyH_take (i := 10) (v := ?_) (by rw [List.getElem?_toArray]; exact rfl) (by kernel_rfl) (by kernel_rfl) (by kernel_rfl) (by exact fun _ _ _ h => h) (Or.inl ⟨by rfl, (by intro W hSw; obtain ⟨o0, o1, o2, o3, o4, o5, o6, o7⟩ := hSw; go_simp <;> with_reducible rfl)⟩) (by assumption) ?_
        try simp only [Act.put, List.setIfInBounds_toArray, List.set_cons_zero, List.set_cons_succ]
        refine wpAnyH_take (i := 11) (v := ?_) (by rw [List.getElem?_toArray]; exact rfl) (by kernel_rfl) (by kernel_rfl) (by kernel_rfl) (by exact fun _ _ _ h => h) (Or.inl ⟨by rfl, (by intro W hSw; obtain ⟨o0, o1, o2, o3, o4, o5, o6, o7⟩ := hSw; go_simp <;> with_reducible rfl)⟩) (by assumption) ?_
        try simp only [Act.put, List.setIfInBounds_toArray, List.set_cons_zero, List.set_cons_succ]
        refine wpAnyH_take (i := 12) (v := ?_) (by rw [List.getElem?_toArray]; exact rfl) (by kernel_rfl) (by kernel_rfl) (by kernel_rfl) (by exact fun _ _ _ h => h) (Or.inl ⟨by rfl, (by intro W hSw; obtain ⟨o0, o1, o2, o3, o4, o5, o6, o7⟩ := hSw; go_simp <;> with_reducible rfl)⟩) (by assumption) ?_
        try simp only [Act.put, List.setIfInBounds_toArray, List.set_cons_zero, List.set_cons_succ]
        refine wpAnyH_done (by kernel_rfl) ?_ _
        go_upto_region 9 with fail
        have J := Lib.hid (J.out.trans (Kept.drew r1))
        have HY1 := Lib.hid (HY1.out.kept (Kept.drew r1))
        refine wp_region_held_drew (S := fun W => W.cell? ⟨w.heap.size, 0, none⟩ = some (.slice (some ⟨b8, off, none⟩) sl1 sc1) ∧ W.cell? ⟨w.heap.size, 1, none⟩ = some (.slice sa2 sl2 sc2) ∧ W.cell? ⟨w.heap.size, 2, none⟩ = some (.slice sa3 sl3 sc3) ∧ W.cell? ⟨b8, off + k * 5, none⟩ = some (.string n9.name) ∧ W.cell? ⟨b8, off + k * 5 + 1, none⟩ = some (.slice x1 y1 z1) ∧ W.cell? ⟨b8, off + k * 5 + 2, none⟩ = some (.slice x2 y2 z2) ∧ W.cell? ⟨b8, off + k * 5 + 3, none⟩ = some (.slice x3 y3 z3) ∧ W.cell? ⟨b8, off + k * 5 + 4, none⟩ = some (.bool n9.cordon)) (by kernel_rfl) (HF.out _ J.out) (fun hHeld => ?_)
        refine wpAnyH_take (i := 0) (v := ?_) (by rw [List.getElem?_toArray]; exact rfl) (by kernel_rfl) (by kernel_rfl) (by kernel_rfl) (by exact fun _ _ _ h => h) (Or.inl ⟨by rfl, (by intro W hSw; obtain ⟨o0, o1, o2, o3, o4, o5, o6, o7⟩ := hSw; go_simp <;> with_reducible rfl)⟩) (by assumption) ?_
        try simp only [Act.put, List.setIfInBounds_toArray, List.set_cons_zero, List.set_cons_succ]
        refine wpAnyH_take (i := 1) (v := ?_) (by rw [List.getElem?_toArray]; exact rfl) (by kernel_rfl) (by kernel_rfl) (by kernel_rfl) (by exact fun _ _ _ h => h) (Or.inl ⟨by rfl, (by intro W hSw; obtain ⟨o0, o1, o2, o3, o4, o5, o6, o7⟩ := hSw; go_simp <;> with_reducible rfl)⟩) (by assumption) ?_
        try simp only [Act.put, List.setIfInBounds_toArray, List.set_cons_zero, List.set_cons_succ]
        refine wpAnyH_take (i := 2) (v := ?_) (by rw [List.getElem?_toArray]; exact rfl) (by kernel_rfl) (by kernel_rfl) (by kernel_rfl) (by exact fun _ _ _ h => h) (Or.inl ⟨by rfl, (by intro W hSw; obtain ⟨o0, o1, o2, o3, o4, o5, o6, o7⟩ := hSw; go_simp <;> with_reducible rfl)⟩) (by assumption) ?_
        try simp only [Act.put, List.setIfInBounds_toArray, List.set_cons_zero, List.set_cons_succ]
        refine wpAnyH_take (i := 3) (v := ?_) (by rw [List.getElem?_toArray]; exact rfl) (by kernel_rfl) (by kernel_rfl) (by kernel_rfl) (by exact fun _ _ _ h => h) (Or.inl ⟨by rfl, (by intro W hSw; obtain ⟨o0, o1, o2, o3, o4, o5, o6, o7⟩ := hSw; go_simp <;> with_reducible rfl)⟩) (by assumption) ?_
        try simp only [Act.put, List.setIfInBounds_toArray, List.set_cons_zero, List.set_cons_succ]
        refine wpAnyH_take (i := 4) (v := ?_) (by rw [List.getElem?_toArray]; exact rfl) (by kernel_rfl) (by kernel_rfl) (by kernel_rfl) (by exact fun _ _ _ h => h) (Or.inl ⟨by rfl, (by intro W hSw; obtain ⟨o0, o1, o2, o3, o4, o5, o6, o7⟩ := hSw; go_simp <;> with_reducible rfl)⟩) (by assumption) ?_
        try simp only [Act.put, List.setIfInBounds_toArray, List.set_cons_zero, List.set_cons_succ]
        refine wpAnyH_take (i := 5) (v := ?_) (by rw [List.getElem?_toArray]; exact rfl) (by kernel_rfl) (by kernel_rfl) (by kernel_rfl) (by exact fun _ _ _ h => h) (Or.inl ⟨by rfl, (by intro W hSw; obtain ⟨o0, o1, o2, o3, o4, o5, o6, o7⟩ := hSw; go_simp <;> with_reducible rfl)⟩) (by assumption) ?_
        try simp only [Act.put, List.setIfInBounds_toArray, List.set_cons_zero, List.set_cons_succ]
        refine wpAnyH_take (i := 6) (v := ?_) (by rw [List.getElem?_toArray]; exact rfl) (by kernel_rfl) (by kernel_rfl) (by kernel_rfl) (by exact fun _ _ _ h => h) (Or.inl ⟨by rfl, (by intro W hSw; obtain ⟨o0, o1, o2, o3, o4, o5, o6, o7⟩ := hSw; go_simp <;> with_reducible rfl)⟩) (by assumption) ?_
        try simp only [Act.put, List.setIfInBounds_toArray, List.set_cons_zero, List.set_cons_succ]
        refine wpAnyH_ready (rs := [7]) (by kernel_rfl) (by simp) (AllReadyH.cons (by rw [List.getElem?_toArray]; exact rfl) (fun K9 hK9 => ?_) AllReadyH.nil)
        go_simp
        refine (freeR (HS.out.kept J.out) n9.name HL.out).mono ?_
        rw [HFR.out]
        rintro e r2 ⟨v2, rfl, hy, kk⟩
        have J := Lib.hid (J.out.trans kk)
        have HY1 := Lib.hid (HY1.out.kept kk)
        have HY2 := Lib.hid (show Vec.Reads r2 v2 fv from hy)
        clear hy kk
        refine hK9.out _ _ (HF.out _ J.out) (fun hHeld1 => ?_)
        clear hK9 K9
        try simp only [Act.put, List.setIfInBounds_toArray, List.set_cons_zero, List.set_cons_succ]
        refine wpAnyH_take (i := 8) (v := ?_) (by rw [List.getElem?_toArray]; exact rfl) (by kernel_rfl) (by kernel_rfl) (by kernel_rfl) (by exact fun _ _ _ h => h) (Or.inl ⟨by rfl, (by intro W hSw; obtain ⟨o0, o1, o2, o3, o4, o5, o6, o7⟩ := hSw; go_simp <;> with_reducible rfl)⟩) (by assumption) ?_
        try simp only [Act.put, List.setIfInBounds_toArray, List.set_cons_zero, List.set_cons_succ]
        refine wpAnyH_take (i := 9) (v := ?_) (by rw [List.getElem?_toArray]; exact rfl) (by kernel_rfl) (by kernel_rfl) (by kernel_rfl) (by exact fun _ _ _ h => h) (Or.inl ⟨by rfl, (by intro W hSw; obtain ⟨o0, o1, o2, o3, o4, o5, o6, o7⟩ := hSw; go_simp <;> with_reducible rfl)⟩) (by assumption) ?_
        try simp only [Act.put, List.setIfInBounds_toArray, List.set_cons_zero, List.set_cons_succ]
        refine wpAnyH_take (i := 10) (v := ?_) (by rw [List.getElem?_toArray]; exact rfl) (by kernel_rfl) (by kernel_rfl) (by kernel_rfl) (by exact fun _ _ _ h => h) (Or.inl ⟨by rfl, (by intro W hSw; obtain ⟨o0, o1, o2, o3, o4, o5, o6, o7⟩ := hSw; go_simp <;> with_reducible rfl)⟩) (by assumption) ?_
        try simp only [Act.put, List.setIfInBounds_toArray, List.set_cons_zero, List.set_cons_succ]
        refine wpAnyH_take (i := 11) (v := ?_) (by rw [List.getElem?_toArray]; exact rfl) (by kernel_rfl) (by kernel_rfl) (by kernel_rfl) (by exact fun _ _ _ h => h) (Or.inl ⟨by rfl, (by intro W hSw; obtain ⟨o0, o1, o2, o3, o4, o5, o6, o7⟩ := hSw; go_simp <;> with_reducible rfl)⟩) (by assumption) ?_
        try simp only [Act.put, List.setIfInBounds_toArray, List.set_cons_zero, List.set_cons_succ]
        refine wpAnyH_take (i := 12) (v := ?_) (by rw [List.getElem?_toArray]; exact rfl) (by kernel_rfl) (by kernel_rfl) (by kernel_rfl) (by exact fun _ _ _ h => h) (Or.inl ⟨by rfl, (by intro W hSw; obtain ⟨o0, o1, o2, o3, o4, o5, o6, o7⟩ := hSw; go_simp <;> with_reducible rfl)⟩) (by assumption) ?_
        try simp only [Act.put, List.setIfInBounds_toArray, List.set_cons_zero, List.set_cons_succ]
        refine wpAnyH_done (by kernel_rfl) ?_ _
        go_wp2_with fail
        refine (addVR HY1.out HY2.out HADD.out).mono ?_
        rintro e r3 ⟨v3, rfl, hy, kk⟩
        have J := Lib.hid (J.out.trans kk)
        have HY3 := Lib.hid (show Vec.Reads r3 v3 n9.cap from hy)
        clear hy kk
        obtain ⟨o0, o1, o2, o3, o4, o5, o6, o7⟩ := HF.out _ J.out
        go_wp2_with fail
        refine (samVR (c := true) HY3.out (HCAP.out.kept J.out) (sameFrom_self _)).mono ?_
        rintro e r4 ⟨rfl, kk⟩
        have J := Lib.hid (J.out.trans kk)
        clear kk o0 o1 o2 o3 o4 o5 o6 o7
        go_wp2
        go_roundw
        case rel => exact ⟨k + 1, by omega, by go_num, HKR.out.trans J.out⟩
        case measure => simp [intOf]; omega
      · have hkk : ¬ (k : Int) < (sl1 : Int) := by omega
        obtain ⟨k1, hk1, hkr1⟩ := rem_nat HN1.out HPI.out
        obtain ⟨k2, hk2, hkr2⟩ := rem_nat HN2.out HNI.out
        have hz1n : ¬ sl2 = 0 := by have := HPI.out; omega
        have hz2n : ¬ sl1 = 0 := by have := HNI.out; omega
        have hz1 : ¬ (sl2 : Int) = 0 := by have := HPI.out; omega
        have hz1b : ((sl2 : Int) == 0) = false := by simp; have := HPI.out; omega
        have hz2 : ¬ (sl1 : Int) = 0 := by have := HNI.out; omega
        have hz2b : ((sl1 : Int) == 0) = false := by simp; have := HNI.out; omega
        have hki1 : (k1 : Int) < (sl2 : Int) := by omega
        have hki2 : (k2 : Int) < (sl1 : Int) := by omega
        have hk10 : ¬ (k1 : Int) < 0 := by omega
        have hk20 : ¬ (k2 : Int) < 0 := by omega
        have hw1 : IntKind.i64.wrap n1 = n1 := IntWalk.i64_in _ (by have := HN1.out; omega)
        have hw2 : IntKind.i64.wrap n2 = n2 := IntWalk.i64_in _ (by have := HN2.out; omega)
        obtain ⟨b8, off8, rfl⟩ := HNA.out.form.resolve_left (by omega)
        obtain ⟨b9, off9, rfl⟩ := HPA.out.form.resolve_left (by omega)
        obtain ⟨pp, a1, m1, c1, a2, m2, c2, a3, m3, c3, a4, m4, c4, hn, hd, hb, p0, p1, p2, p3, p4, p5, p6, p7, p8, p9, p10, hat⟩ := HPA.out.at_ hk1
        obtain ⟨n9, x1, y1, z1, x2, y2, z2, x3, y3, z3, hn9, hd9, hb9, q0, q1, q2, q3, q4, hat9⟩ := HNA.out.at_ hk2
        have HPM := Lib.hid (List.mem_of_getElem? hn)
        have HNM := Lib.hid (List.mem_of_getElem? hn9)
        have HNEED := Lib.hid hat.need
        have HNS := Lib.hid hat9.size
        have HF := Lib.hid (show ∀ W, Kept wr W → W.cell? ⟨w.heap.size, 0, none⟩ = some (.slice (some ⟨b8, off8, none⟩) sl1 sc1) ∧ W.cell? ⟨w.heap.size, 1, none⟩ = some (.slice (some ⟨b9, off9, none⟩) sl2 sc2) ∧ W.cell? ⟨w.heap.size, 2, none⟩ = some (.slice sa3 sl3 sc3) ∧ W.cell? ⟨b9, off9 + k1 * 11, none⟩ = some (.string pp.name) ∧ W.cell? ⟨b9, off9 + k1 * 11 + 1, none⟩ = some (.string pp.owner) ∧ W.cell? ⟨b9, off9 + k1 * 11 + 2, none⟩ = some (.int .i64 pp.prio) ∧ W.cell? ⟨b9, off9 + k1 * 11 + 3, none⟩ = some (.slice a1 m1 c1) ∧ W.cell? ⟨b9, off9 + k1 * 11 + 4, none⟩ = some (.slice a2 m2 c2) ∧ W.cell? ⟨b9, off9 + k1 * 11 + 5, none⟩ = some (.slice a3 m3 c3) ∧ W.cell? ⟨b9, off9 + k1 * 11 + 6, none⟩ = some (.slice a4 m4 c4) ∧ W.cell? ⟨b9, off9 + k1 * 11 + 7, none⟩ = some (.string pp.key) ∧ W.cell? ⟨b9, off9 + k1 * 11 + 8, none⟩ = some (.int .i64 pp.most) ∧ W.cell? ⟨b9, off9 + k1 * 11 + 9, none⟩ = some (.string pp.node) ∧ W.cell? ⟨b9, off9 + k1 * 11 + 10, none⟩ = some (.bool pp.hold) ∧ W.cell? ⟨b8, off8 + k2 * 5, none⟩ = some (.string n9.name) from fun W kk => ⟨cell_later kk (HQS.out.at_ 0 _ rfl), cell_later kk (HQS.out.at_ 1 _ rfl), cell_later kk (HQS.out.at_ 2 _ rfl), cell_later kk p0, cell_later kk p1, cell_later kk p2, cell_later kk p3, cell_later kk p4, cell_later kk p5, cell_later kk p6, cell_later kk p7, cell_later kk p8, cell_later kk p9, cell_later kk p10, cell_later kk q0⟩)
        go_upto_region 13 with fail
        clear hat hat9 hn hn9 hd hd9 hb hb9 p0 p1 p2 p3 p4 p5 p6 p7 p8 p9 p10 q0 q1 q2 q3 q4 sq0 sq1 sq2
        have J := Lib.hid (Kept.drew wr)
        refine wp_region_held_drew (S := fun W => W.cell? ⟨w.heap.size, 0, none⟩ = some (.slice (some ⟨b8, off8, none⟩) sl1 sc1) ∧ W.cell? ⟨w.heap.size, 1, none⟩ = some (.slice (some ⟨b9, off9, none⟩) sl2 sc2) ∧ W.cell? ⟨w.heap.size, 2, none⟩ = some (.slice sa3 sl3 sc3) ∧ W.cell? ⟨b9, off9 + k1 * 11, none⟩ = some (.string pp.name) ∧ W.cell? ⟨b9, off9 + k1 * 11 + 1, none⟩ = some (.string pp.owner) ∧ W.cell? ⟨b9, off9 + k1 * 11 + 2, none⟩ = some (.int .i64 pp.prio) ∧ W.cell? ⟨b9, off9 + k1 * 11 + 3, none⟩ = some (.slice a1 m1 c1) ∧ W.cell? ⟨b9, off9 + k1 * 11 + 4, none⟩ = some (.slice a2 m2 c2) ∧ W.cell? ⟨b9, off9 + k1 * 11 + 5, none⟩ = some (.slice a3 m3 c3) ∧ W.cell? ⟨b9, off9 + k1 * 11 + 6, none⟩ = some (.slice a4 m4 c4) ∧ W.cell? ⟨b9, off9 + k1 * 11 + 7, none⟩ = some (.string pp.key) ∧ W.cell? ⟨b9, off9 + k1 * 11 + 8, none⟩ = some (.int .i64 pp.most) ∧ W.cell? ⟨b9, off9 + k1 * 11 + 9, none⟩ = some (.string pp.node) ∧ W.cell? ⟨b9, off9 + k1 * 11 + 10, none⟩ = some (.bool pp.hold) ∧ W.cell? ⟨b8, off8 + k2 * 5, none⟩ = some (.string n9.name)) (by kernel_rfl) (HF.out _ J.out) (fun hHeld => ?_)
        obtain ⟨wd, hwd⟩ : ∃ W, wr.drew = W := ⟨_, rfl⟩
        rw [hwd] at J hHeld
        try rw [hwd]
        clear hwd
        refine wpAnyH_take (i := 0) (v := ?_) (by rw [List.getElem?_toArray]; exact rfl) (by kernel_rfl) (by kernel_rfl) (by kernel_rfl) (by exact fun _ _ _ h => h) (Or.inl ⟨by rfl, (by intro W hSw; obtain ⟨o0, o1, o2, o3, o4, o5, o6, o7, o8, o9, o10, o11, o12, o13, o14⟩ := hSw; go_simp <;> with_reducible rfl)⟩) (by assumption) ?_
        try simp only [Act.put, List.setIfInBounds_toArray, List.set_cons_zero, List.set_cons_succ]
        refine wpAnyH_take (i := 1) (v := ?_) (by rw [List.getElem?_toArray]; exact rfl) (by kernel_rfl) (by kernel_rfl) (by kernel_rfl) (by exact fun _ _ _ h => h) (Or.inl ⟨by rfl, (by intro W hSw; obtain ⟨o0, o1, o2, o3, o4, o5, o6, o7, o8, o9, o10, o11, o12, o13, o14⟩ := hSw; go_simp <;> with_reducible rfl)⟩) (by assumption) ?_
        try simp only [Act.put, List.setIfInBounds_toArray, List.set_cons_zero, List.set_cons_succ]
        refine wpAnyH_take (i := 2) (v := ?_) (by rw [List.getElem?_toArray]; exact rfl) (by kernel_rfl) (by kernel_rfl) (by kernel_rfl) (by exact fun _ _ _ h => h) (Or.inl ⟨by rfl, (by intro W hSw; obtain ⟨o0, o1, o2, o3, o4, o5, o6, o7, o8, o9, o10, o11, o12, o13, o14⟩ := hSw; go_simp <;> with_reducible rfl)⟩) (by assumption) ?_
        try simp only [Act.put, List.setIfInBounds_toArray, List.set_cons_zero, List.set_cons_succ]
        refine wpAnyH_take (i := 3) (v := ?_) (by rw [List.getElem?_toArray]; exact rfl) (by kernel_rfl) (by kernel_rfl) (by kernel_rfl) (by exact fun _ _ _ h => h) (Or.inl ⟨by rfl, (by intro W hSw; obtain ⟨o0, o1, o2, o3, o4, o5, o6, o7, o8, o9, o10, o11, o12, o13, o14⟩ := hSw; go_simp <;> with_reducible rfl)⟩) (by assumption) ?_
        try simp only [Act.put, List.setIfInBounds_toArray, List.set_cons_zero, List.set_cons_succ]
        refine wpAnyH_take (i := 4) (v := ?_) (by rw [List.getElem?_toArray]; exact rfl) (by kernel_rfl) (by kernel_rfl) (by kernel_rfl) (by exact fun _ _ _ h => h) (Or.inl ⟨by rfl, (by intro W hSw; obtain ⟨o0, o1, o2, o3, o4, o5, o6, o7, o8, o9, o10, o11, o12, o13, o14⟩ := hSw; go_simp <;> with_reducible rfl)⟩) (by assumption) ?_
        try simp only [Act.put, List.setIfInBounds_toArray, List.set_cons_zero, List.set_cons_succ]
        refine wpAnyH_take (i := 5) (v := ?_) (by rw [List.getElem?_toArray]; exact rfl) (by kernel_rfl) (by kernel_rfl) (by kernel_rfl) (by exact fun _ _ _ h => h) (Or.inl ⟨by rfl, (by intro W hSw; obtain ⟨o0, o1, o2, o3, o4, o5, o6, o7, o8, o9, o10, o11, o12, o13, o14⟩ := hSw; go_simp <;> with_reducible rfl)⟩) (by assumption) ?_
        try simp only [Act.put, List.setIfInBounds_toArray, List.set_cons_zero, List.set_cons_succ]
        refine wpAnyH_take (i := 6) (v := ?_) (by rw [List.getElem?_toArray]; exact rfl) (by kernel_rfl) (by kernel_rfl) (by kernel_rfl) (by exact fun _ _ _ h => h) (Or.inl ⟨by rfl, (by intro W hSw; obtain ⟨o0, o1, o2, o3, o4, o5, o6, o7, o8, o9, o10, o11, o12, o13, o14⟩ := hSw; go_simp <;> with_reducible rfl)⟩) (by assumption) ?_
        try simp only [Act.put, List.setIfInBounds_toArray, List.set_cons_zero, List.set_cons_succ]
        refine wpAnyH_take (i := 7) (v := ?_) (by rw [List.getElem?_toArray]; exact rfl) (by kernel_rfl) (by kernel_rfl) (by kernel_rfl) (by exact fun _ _ _ h => h) (Or.inl ⟨by rfl, (by intro W hSw; obtain ⟨o0, o1, o2, o3, o4, o5, o6, o7, o8, o9, o10, o11, o12, o13, o14⟩ := hSw; go_simp <;> with_reducible rfl)⟩) (by assumption) ?_
        try simp only [Act.put, List.setIfInBounds_toArray, List.set_cons_zero, List.set_cons_succ]
        refine wpAnyH_take (i := 8) (v := ?_) (by rw [List.getElem?_toArray]; exact rfl) (by kernel_rfl) (by kernel_rfl) (by kernel_rfl) (by exact fun _ _ _ h => h) (Or.inl ⟨by rfl, (by intro W hSw; obtain ⟨o0, o1, o2, o3, o4, o5, o6, o7, o8, o9, o10, o11, o12, o13, o14⟩ := hSw; go_simp <;> with_reducible rfl)⟩) (by assumption) ?_
        try simp only [Act.put, List.setIfInBounds_toArray, List.set_cons_zero, List.set_cons_succ]
        refine wpAnyH_take (i := 9) (v := ?_) (by rw [List.getElem?_toArray]; exact rfl) (by kernel_rfl) (by kernel_rfl) (by kernel_rfl) (by exact fun _ _ _ h => h) (Or.inl ⟨by rfl, (by intro W hSw; obtain ⟨o0, o1, o2, o3, o4, o5, o6, o7, o8, o9, o10, o11, o12, o13, o14⟩ := hSw; go_simp <;> with_reducible rfl)⟩) (by assumption) ?_
        try simp only [Act.put, List.setIfInBounds_toArray, List.set_cons_zero, List.set_cons_succ]
        refine wpAnyH_ready (rs := [10]) (by kernel_rfl) (by simp) (AllReadyH.cons (by rw [List.getElem?_toArray]; exact rfl) (fun K9 hK9 => ?_) AllReadyH.nil)
        go_simp
        refine hK9.out _ _ (HF.out _ (J.out.trans (kept_alloc _ _))) (fun hHeldA => ?_)
        clear hK9 K9
        try simp only [Act.put, List.setIfInBounds_toArray, List.set_cons_zero, List.set_cons_succ]
        refine wpAnyH_ready (rs := [11]) (by kernel_rfl) (by simp) (AllReadyH.cons (by rw [List.getElem?_toArray]; exact rfl) (fun K9 hK9 => ?_) AllReadyH.nil)
        go_simp
        refine hK9.out _ _ (HF.out _ (J.out.trans (kept_alloc _ _))) (fun hHeldB => ?_)
        clear hK9 K9
        try simp only [Act.put, List.setIfInBounds_toArray, List.set_cons_zero, List.set_cons_succ]
        obtain ⟨w3, hw3⟩ : ∃ W, wd.alloc (.cells #[.string pp.name, .string pp.owner, .int .i64 pp.prio, .slice a1 m1 c1, .slice a2 m2 c2, .slice a3 m3 c3, .slice a4 m4 c4, .string pp.key, .int .i64 pp.most, .string pp.node, .bool pp.hold] 64) = W := ⟨_, rfl⟩
        have hk3 : Kept wd w3 := by rw [← hw3]; exact kept_alloc _ _
        have HQP := Lib.hid (show CellsN wd.heap.size [.string pp.name, .string pp.owner, .int .i64 pp.prio, .slice a1 m1 c1, .slice a2 m2 c2, .slice a3 m3 c3, .slice a4 m4 c4, .string pp.key, .int .i64 pp.most, .string pp.node, .bool pp.hold] w3 from freshN wd (.string pp.name) [.string pp.owner, .int .i64 pp.prio, .slice a1 m1 c1, .slice a2 m2 c2, .slice a3 m3 c3, .slice a4 m4 c4, .string pp.key, .int .i64 pp.most, .string pp.node, .bool pp.hold] 64 w3 (by rw [hw3]; exact Kept.refl _))
        obtain ⟨pq, hpq⟩ : ∃ q, wd.heap.size = q := ⟨_, rfl⟩
        rw [hpq] at HQP
        try rw [hw3]
        try rw [hpq]
        have J := Lib.hid (J.out.trans hk3)
        clear hw3 hpq hk3
        refine wpAnyH_done (by kernel_rfl) ?_ _
        go_upto_region 14 with fail
        have J := Lib.hid (J.out.trans (Kept.drew w3))
        have HQP := Lib.hid (HQP.out.kept (Kept.drew w3))
        refine wp_region_held_drew (S := fun W => W.cell? ⟨w.heap.size, 0, none⟩ = some (.slice (some ⟨b8, off8, none⟩) sl1 sc1) ∧ W.cell? ⟨w.heap.size, 1, none⟩ = some (.slice (some ⟨b9, off9, none⟩) sl2 sc2) ∧ W.cell? ⟨w.heap.size, 2, none⟩ = some (.slice sa3 sl3 sc3) ∧ W.cell? ⟨b9, off9 + k1 * 11, none⟩ = some (.string pp.name) ∧ W.cell? ⟨b9, off9 + k1 * 11 + 1, none⟩ = some (.string pp.owner) ∧ W.cell? ⟨b9, off9 + k1 * 11 + 2, none⟩ = some (.int .i64 pp.prio) ∧ W.cell? ⟨b9, off9 + k1 * 11 + 3, none⟩ = some (.slice a1 m1 c1) ∧ W.cell? ⟨b9, off9 + k1 * 11 + 4, none⟩ = some (.slice a2 m2 c2) ∧ W.cell? ⟨b9, off9 + k1 * 11 + 5, none⟩ = some (.slice a3 m3 c3) ∧ W.cell? ⟨b9, off9 + k1 * 11 + 6, none⟩ = some (.slice a4 m4 c4) ∧ W.cell? ⟨b9, off9 + k1 * 11 + 7, none⟩ = some (.string pp.key) ∧ W.cell? ⟨b9, off9 + k1 * 11 + 8, none⟩ = some (.int .i64 pp.most) ∧ W.cell? ⟨b9, off9 + k1 * 11 + 9, none⟩ = some (.string pp.node) ∧ W.cell? ⟨b9, off9 + k1 * 11 + 10, none⟩ = some (.bool pp.hold) ∧ W.cell? ⟨b8, off8 + k2 * 5, none⟩ = some (.string n9.name)) (by kernel_rfl) (HF.out _ J.out) (fun hHeld => ?_)
        refine wpAnyH_take (i := 0) (v := ?_) (by rw [List.getElem?_toArray]; exact rfl) (by kernel_rfl) (by kernel_rfl) (by kernel_rfl) (by exact fun _ _ _ h => h) (Or.inl ⟨by rfl, (by intro W hSw; obtain ⟨o0, o1, o2, o3, o4, o5, o6, o7, o8, o9, o10, o11, o12, o13, o14⟩ := hSw; go_simp <;> with_reducible rfl)⟩) (by assumption) ?_
        try simp only [Act.put, List.setIfInBounds_toArray, List.set_cons_zero, List.set_cons_succ]
        refine wpAnyH_take (i := 1) (v := ?_) (by rw [List.getElem?_toArray]; exact rfl) (by kernel_rfl) (by kernel_rfl) (by kernel_rfl) (by exact fun _ _ _ h => h) (Or.inl ⟨by rfl, (by intro W hSw; obtain ⟨o0, o1, o2, o3, o4, o5, o6, o7, o8, o9, o10, o11, o12, o13, o14⟩ := hSw; go_simp <;> with_reducible rfl)⟩) (by assumption) ?_
        try simp only [Act.put, List.setIfInBounds_toArray, List.set_cons_zero, List.set_cons_succ]
        refine wpAnyH_take (i := 2) (v := ?_) (by rw [List.getElem?_toArray]; exact rfl) (by kernel_rfl) (by kernel_rfl) (by kernel_rfl) (by exact fun _ _ _ h => h) (Or.inl ⟨by rfl, (by intro W hSw; obtain ⟨o0, o1, o2, o3, o4, o5, o6, o7, o8, o9, o10, o11, o12, o13, o14⟩ := hSw; go_simp <;> with_reducible rfl)⟩) (by assumption) ?_
        try simp only [Act.put, List.setIfInBounds_toArray, List.set_cons_zero, List.set_cons_succ]
        refine wpAnyH_take (i := 3) (v := ?_) (by rw [List.getElem?_toArray]; exact rfl) (by kernel_rfl) (by kernel_rfl) (by kernel_rfl) (by exact fun _ _ _ h => h) (Or.inl ⟨by rfl, (by intro W hSw; obtain ⟨o0, o1, o2, o3, o4, o5, o6, o7, o8, o9, o10, o11, o12, o13, o14⟩ := hSw; go_simp <;> with_reducible rfl)⟩) (by assumption) ?_
        try simp only [Act.put, List.setIfInBounds_toArray, List.set_cons_zero, List.set_cons_succ]
        refine wpAnyH_take (i := 4) (v := ?_) (by rw [List.getElem?_toArray]; exact rfl) (by kernel_rfl) (by kernel_rfl) (by kernel_rfl) (by exact fun _ _ _ h => h) (Or.inl ⟨by rfl, (by intro W hSw; obtain ⟨o0, o1, o2, o3, o4, o5, o6, o7, o8, o9, o10, o11, o12, o13, o14⟩ := hSw; go_simp <;> with_reducible rfl)⟩) (by assumption) ?_
        try simp only [Act.put, List.setIfInBounds_toArray, List.set_cons_zero, List.set_cons_succ]
        refine wpAnyH_take (i := 5) (v := ?_) (by rw [List.getElem?_toArray]; exact rfl) (by kernel_rfl) (by kernel_rfl) (by kernel_rfl) (by exact fun _ _ _ h => h) (Or.inl ⟨by rfl, (by intro W hSw; obtain ⟨o0, o1, o2, o3, o4, o5, o6, o7, o8, o9, o10, o11, o12, o13, o14⟩ := hSw; go_simp <;> with_reducible rfl)⟩) (by assumption) ?_
        try simp only [Act.put, List.setIfInBounds_toArray, List.set_cons_zero, List.set_cons_succ]
        refine wpAnyH_take (i := 6) (v := ?_) (by rw [List.getElem?_toArray]; exact rfl) (by kernel_rfl) (by kernel_rfl) (by kernel_rfl) (by exact fun _ _ _ h => h) (Or.inl ⟨by rfl, (by intro W hSw; obtain ⟨o0, o1, o2, o3, o4, o5, o6, o7, o8, o9, o10, o11, o12, o13, o14⟩ := hSw; go_simp <;> with_reducible rfl)⟩) (by assumption) ?_
        try simp only [Act.put, List.setIfInBounds_toArray, List.set_cons_zero, List.set_cons_succ]
        refine wpAnyH_take (i := 7) (v := ?_) (by rw [List.getElem?_toArray]; exact rfl) (by kernel_rfl) (by kernel_rfl) (by kernel_rfl) (by exact fun _ _ _ h => h) (Or.inl ⟨by rfl, (by intro W hSw; obtain ⟨o0, o1, o2, o3, o4, o5, o6, o7, o8, o9, o10, o11, o12, o13, o14⟩ := hSw; go_simp <;> with_reducible rfl)⟩) (by assumption) ?_
        try simp only [Act.put, List.setIfInBounds_toArray, List.set_cons_zero, List.set_cons_succ]
        refine wpAnyH_take (i := 8) (v := ?_) (by rw [List.getElem?_toArray]; exact rfl) (by kernel_rfl) (by kernel_rfl) (by kernel_rfl) (by exact fun _ _ _ h => h) (Or.inl ⟨by rfl, (by intro W hSw; obtain ⟨o0, o1, o2, o3, o4, o5, o6, o7, o8, o9, o10, o11, o12, o13, o14⟩ := hSw; go_simp <;> with_reducible rfl)⟩) (by assumption) ?_
        try simp only [Act.put, List.setIfInBounds_toArray, List.set_cons_zero, List.set_cons_succ]
        refine wpAnyH_take (i := 9) (v := ?_) (by rw [List.getElem?_toArray]; exact rfl) (by kernel_rfl) (by kernel_rfl) (by kernel_rfl) (by exact fun _ _ _ h => h) (Or.inl ⟨by rfl, (by intro W hSw; obtain ⟨o0, o1, o2, o3, o4, o5, o6, o7, o8, o9, o10, o11, o12, o13, o14⟩ := hSw; go_simp <;> with_reducible rfl)⟩) (by assumption) ?_
        try simp only [Act.put, List.setIfInBounds_toArray, List.set_cons_zero, List.set_cons_succ]
        refine wpAnyH_take (i := 10) (v := ?_) (by rw [List.getElem?_toArray]; exact rfl) (by kernel_rfl) (by kernel_rfl) (by kernel_rfl) (by exact fun _ _ _ h => h) (Or.inl ⟨by rfl, (by intro W hSw; obtain ⟨o0, o1, o2, o3, o4, o5, o6, o7, o8, o9, o10, o11, o12, o13, o14⟩ := hSw; go_simp <;> with_reducible rfl)⟩) (by assumption) ?_
        try simp only [Act.put, List.setIfInBounds_toArray, List.set_cons_zero, List.set_cons_succ]
        refine wpAnyH_take (i := 11) (v := ?_) (by rw [List.getElem?_toArray]; exact rfl) (by kernel_rfl) (by kernel_rfl) (by kernel_rfl) (by exact fun _ _ _ h => h) (Or.inl ⟨by rfl, (by intro W hSw; obtain ⟨o0, o1, o2, o3, o4, o5, o6, o7, o8, o9, o10, o11, o12, o13, o14⟩ := hSw; go_simp <;> with_reducible rfl)⟩) (by assumption) ?_
        try simp only [Act.put, List.setIfInBounds_toArray, List.set_cons_zero, List.set_cons_succ]
        refine wpAnyH_done (by kernel_rfl) ?_ _
        obtain ⟨w4, hw4⟩ : ∃ W, w3.drew = W := ⟨_, rfl⟩
        rw [hw4] at J HQP
        try rw [hw4]
        clear hw4
        go_upto_region 15 with fail
        have HS := Lib.hid (HS.out.kept J.out)
        have HQS := Lib.hid (HQS.out.kept J.out)
        have HNEED := Lib.hid (HNEED.out.kept J.out)
        have K := Lib.hid (K.out.trans J.out)
        clear HF J
        have sq0 := HQS.out.at_ 0 _ rfl
        have sq1 := HQS.out.at_ 1 _ rfl
        have sq2 := HQS.out.at_ 2 _ rfl
        have pq0 := HQP.out.at_ 0 _ rfl
        have pq1 := HQP.out.at_ 1 _ rfl
        have pq2 := HQP.out.at_ 2 _ rfl
        have pq3 := HQP.out.at_ 3 _ rfl
        have pq4 := HQP.out.at_ 4 _ rfl
        have pq5 := HQP.out.at_ 5 _ rfl
        have pq6 := HQP.out.at_ 6 _ rfl
        have pq7 := HQP.out.at_ 7 _ rfl
        have pq8 := HQP.out.at_ 8 _ rfl
        have pq9 := HQP.out.at_ 9 _ rfl
        have pq10 := HQP.out.at_ 10 _ rfl
        obtain ⟨nm, hnm⟩ : ∃ q, n9.name = q := ⟨_, rfl⟩
        have HNMN := Lib.hid hnm
        rw [hnm] at HNS
        try rw [hnm]
        clear hnm
        go_wp2_with fail
        refine (moveStR' HS.out pp.name nm HNS.out HL.out).mono ?_
        rintro e w5 ⟨tv, rfl, ht, kk⟩
        have HQS := Lib.hid (HQS.out.kept kk)
        have HQP := Lib.hid (HQP.out.kept kk)
        have HS := Lib.hid (HS.out.kept kk)
        have HNEED := Lib.hid (HNEED.out.kept kk)
        have K := Lib.hid (K.out.trans kk)
        clear kk
        have hs0 := ht
        obtain ⟨_, _, _, rfl, ⟨ta1, tc1, rfl, -, -, -⟩, ⟨ta2, tc2, rfl, -, -, -⟩, ⟨ta3, tc3, rfl, -, -, -⟩⟩ := hs0
        obtain ⟨tl1, htl1⟩ : ∃ q, (moveSt s pp.name nm).nodes.length = q := ⟨_, rfl⟩
        rw [htl1] at ht
        try rw [htl1]
        obtain ⟨tl2, htl2⟩ : ∃ q, (moveSt s pp.name nm).pods.length = q := ⟨_, rfl⟩
        rw [htl2] at ht
        try rw [htl2]
        obtain ⟨tl3, htl3⟩ : ∃ q, (moveSt s pp.name nm).buds.length = q := ⟨_, rfl⟩
        rw [htl3] at ht
        try rw [htl3]
        clear htl1 htl2 htl3
        try unfold CluV at ht
        have HT := Lib.hid ht
        clear ht
        clear sq0 sq1 sq2 pq0 pq1 pq2 pq3 pq4 pq5 pq6 pq7 pq8 pq9 pq10
        obtain ⟨w6, hw6⟩ : ∃ W, w5.alloc (.cells #[.slice ta1 tl1 tc1, .slice ta2 tl2 tc2, .slice ta3 tl3 tc3] 26) = W := ⟨_, rfl⟩
        have hk6 : Kept w5 w6 := by rw [← hw6]; exact kept_alloc _ _
        have HQT := Lib.hid (show CellsN w5.heap.size [.slice ta1 tl1 tc1, .slice ta2 tl2 tc2, .slice ta3 tl3 tc3] w6 from freshN w5 (.slice ta1 tl1 tc1) [.slice ta2 tl2 tc2, .slice ta3 tl3 tc3] 26 w6 (by rw [hw6]; exact Kept.refl _))
        obtain ⟨tq, htq⟩ : ∃ q, w5.heap.size = q := ⟨_, rfl⟩
        rw [htq] at HQT
        have HW6 := Lib.hid hw6
        clear hw6
        go_upto_region 16 with fail
        try rw [HW6.out]
        try rw [htq]
        clear HW6 htq
        have HQS := Lib.hid (HQS.out.kept hk6)
        have HQP := Lib.hid (HQP.out.kept hk6)
        have HS := Lib.hid (HS.out.kept hk6)
        have HNEED := Lib.hid (HNEED.out.kept hk6)
        have HT := Lib.hid (HT.out.kept hk6)
        have K := Lib.hid (K.out.trans hk6)
        clear hk6
        have sq0 := HQS.out.at_ 0 _ rfl
        have sq1 := HQS.out.at_ 1 _ rfl
        have sq2 := HQS.out.at_ 2 _ rfl
        have pq0 := HQP.out.at_ 0 _ rfl
        have pq1 := HQP.out.at_ 1 _ rfl
        have pq2 := HQP.out.at_ 2 _ rfl
        have pq3 := HQP.out.at_ 3 _ rfl
        have pq4 := HQP.out.at_ 4 _ rfl
        have pq5 := HQP.out.at_ 5 _ rfl
        have pq6 := HQP.out.at_ 6 _ rfl
        have pq7 := HQP.out.at_ 7 _ rfl
        have pq8 := HQP.out.at_ 8 _ rfl
        have pq9 := HQP.out.at_ 9 _ rfl
        have pq10 := HQP.out.at_ 10 _ rfl
        have tq0 := HQT.out.at_ 0 _ rfl
        have tq1 := HQT.out.at_ 1 _ rfl
        have tq2 := HQT.out.at_ 2 _ rfl
        obtain ⟨a, fa, ha, -, -, -, -, -, -, -⟩ := room_at HSN.out HNM.out
        rw [HNMN.out] at ha
        obtain ⟨f, b, hb⟩ : ∃ f b, usedSt (moveSt s pp.name nm) nm = (f, b) := ⟨_, _, rfl⟩
        have HA := Lib.hid ha
        have HB := Lib.hid hb
        clear ha hb
        go_wp2_with fail
        refine (usedR HS.out nm HL.out).mono ?_
        rw [HA.out]
        rintro e w7 ⟨y7, rfl, hy, kk⟩
        have HQS := Lib.hid (HQS.out.kept kk)
        have HQP := Lib.hid (HQP.out.kept kk)
        have HQT := Lib.hid (HQT.out.kept kk)
        have HS := Lib.hid (HS.out.kept kk)
        have HNEED := Lib.hid (HNEED.out.kept kk)
        have HT := Lib.hid (HT.out.kept kk)
        have K := Lib.hid (K.out.trans kk)
        have HYA := Lib.hid (show Vec.Reads w7 y7 a from hy)
        clear hy kk
        clear sq0 sq1 sq2 pq0 pq1 pq2 pq3 pq4 pq5 pq6 pq7 pq8 pq9 pq10 tq0 tq1 tq2
        have sq0 := HQS.out.at_ 0 _ rfl
        have sq1 := HQS.out.at_ 1 _ rfl
        have sq2 := HQS.out.at_ 2 _ rfl
        have pq0 := HQP.out.at_ 0 _ rfl
        have pq1 := HQP.out.at_ 1 _ rfl
        have pq2 := HQP.out.at_ 2 _ rfl
        have pq3 := HQP.out.at_ 3 _ rfl
        have pq4 := HQP.out.at_ 4 _ rfl
        have pq5 := HQP.out.at_ 5 _ rfl
        have pq6 := HQP.out.at_ 6 _ rfl
        have pq7 := HQP.out.at_ 7 _ rfl
        have pq8 := HQP.out.at_ 8 _ rfl
        have pq9 := HQP.out.at_ 9 _ rfl
        have pq10 := HQP.out.at_ 10 _ rfl
        have tq0 := HQT.out.at_ 0 _ rfl
        have tq1 := HQT.out.at_ 1 _ rfl
        have tq2 := HQT.out.at_ 2 _ rfl
        go_wp2_with fail
        refine (usedR HT.out nm (move_low HL.out _ _)).mono ?_
        rw [HB.out]
        rintro e w8 ⟨y8, rfl, hy, kk⟩
        have HQS := Lib.hid (HQS.out.kept kk)
        have HQP := Lib.hid (HQP.out.kept kk)
        have HQT := Lib.hid (HQT.out.kept kk)
        have HS := Lib.hid (HS.out.kept kk)
        have HNEED := Lib.hid (HNEED.out.kept kk)
        have HT := Lib.hid (HT.out.kept kk)
        have HYA := Lib.hid (HYA.out.kept kk)
        have K := Lib.hid (K.out.trans kk)
        have HYB := Lib.hid (show Vec.Reads w8 y8 b from hy)
        clear hy kk
        clear sq0 sq1 sq2 pq0 pq1 pq2 pq3 pq4 pq5 pq6 pq7 pq8 pq9 pq10 tq0 tq1 tq2
        have sq0 := HQS.out.at_ 0 _ rfl
        have sq1 := HQS.out.at_ 1 _ rfl
        have sq2 := HQS.out.at_ 2 _ rfl
        have pq0 := HQP.out.at_ 0 _ rfl
        have pq1 := HQP.out.at_ 1 _ rfl
        have pq2 := HQP.out.at_ 2 _ rfl
        have pq3 := HQP.out.at_ 3 _ rfl
        have pq4 := HQP.out.at_ 4 _ rfl
        have pq5 := HQP.out.at_ 5 _ rfl
        have pq6 := HQP.out.at_ 6 _ rfl
        have pq7 := HQP.out.at_ 7 _ rfl
        have pq8 := HQP.out.at_ 8 _ rfl
        have pq9 := HQP.out.at_ 9 _ rfl
        have pq10 := HQP.out.at_ 10 _ rfl
        have tq0 := HQT.out.at_ 0 _ rfl
        have tq1 := HQT.out.at_ 1 _ rfl
        have tq2 := HQT.out.at_ 2 _ rfl
        obtain ⟨e2, he2⟩ : ∃ e, eqS pp.node nm = e := ⟨_, rfl⟩
        have he2' : (pp.node.toList == nm.toList) = e2 := he2
        have HE2 := Lib.hid he2
        clear he2
        cases e2 with
        | true =>
          have hsame : moveSt s pp.name nm = s := by
            have hn := eqS_iff.1 HE2.out
            rw [← hn]
            exact moveSt_same HSN.out HPM.out
          have hfb := HB.out
          rw [hsame, HA.out] at hfb
          obtain ⟨h0, rfl⟩ := Prod.mk.inj hfb
          subst h0
          clear hfb hsame
          go_wp2_with fail
          refine (samVR (c := true) HYA.out HYB.out (sameFrom_self _)).mono ?_
          rintro e w9 ⟨rfl, kk⟩
          have K := Lib.hid (K.out.trans kk)
          clear kk
          go_wp2
          go_ret
          exact ⟨rfl, HKZ.out.trans K.out⟩
        | false =>
          obtain ⟨g, c, hc⟩ : ∃ g c, Vec.mergedV Vec.addF a pp.need = (g, c) := ⟨_, _, rfl⟩
          have HM := Lib.hid (room_moved (a := a) (b := b) (c := c) (f := f) (g := g) HSN.out HNM.out HPM.out (by rw [HNMN.out]; exact HE2.out) (by rw [HNMN.out]; exact HA.out) (by rw [HNMN.out]; exact HB.out) hc)
          have HC := Lib.hid hc
          clear hc
          go_wp2_with fail
          refine (addVR HYA.out HNEED.out HC.out).mono ?_
          rintro e w9 ⟨y9, rfl, hy, kk⟩
          have HQS := Lib.hid (HQS.out.kept kk)
          have HQP := Lib.hid (HQP.out.kept kk)
          have HQT := Lib.hid (HQT.out.kept kk)
          have HS := Lib.hid (HS.out.kept kk)
          have HNEED := Lib.hid (HNEED.out.kept kk)
          have HT := Lib.hid (HT.out.kept kk)
          have HYA := Lib.hid (HYA.out.kept kk)
          have HYB := Lib.hid (HYB.out.kept kk)
          have K := Lib.hid (K.out.trans kk)
          have HYC := Lib.hid (show Vec.Reads w9 y9 c from hy)
          clear hy kk
          clear sq0 sq1 sq2 pq0 pq1 pq2 pq3 pq4 pq5 pq6 pq7 pq8 pq9 pq10 tq0 tq1 tq2
          have sq0 := HQS.out.at_ 0 _ rfl
          have sq1 := HQS.out.at_ 1 _ rfl
          have sq2 := HQS.out.at_ 2 _ rfl
          have pq0 := HQP.out.at_ 0 _ rfl
          have pq1 := HQP.out.at_ 1 _ rfl
          have pq2 := HQP.out.at_ 2 _ rfl
          have pq3 := HQP.out.at_ 3 _ rfl
          have pq4 := HQP.out.at_ 4 _ rfl
          have pq5 := HQP.out.at_ 5 _ rfl
          have pq6 := HQP.out.at_ 6 _ rfl
          have pq7 := HQP.out.at_ 7 _ rfl
          have pq8 := HQP.out.at_ 8 _ rfl
          have pq9 := HQP.out.at_ 9 _ rfl
          have pq10 := HQP.out.at_ 10 _ rfl
          have tq0 := HQT.out.at_ 0 _ rfl
          have tq1 := HQT.out.at_ 1 _ rfl
          have tq2 := HQT.out.at_ 2 _ rfl
          obtain ⟨t, ht⟩ : ∃ t, decide (f = 0) = t := ⟨_, rfl⟩
          have htg : decide (g = 0) = t := HM.out.1.symm.trans ht
          have HTF := Lib.hid ht
          have ht1 : (f == 0) = t := ht
          have ht2 : (g == 0) = t := htg
          have ht3 : (f != 0) = !t := by rw [bne, ht1]
          clear ht htg
          cases t with
          | false =>
            have ht4 : (f != 0) = true := ht3
            go_wp2
            go_ret
            exact ⟨rfl, HKZ.out.trans K.out⟩
          | true =>
            have ht4 : (f != 0) = false := ht3
            have hbc : b = c := HM.out.2 (of_decide_eq_true HTF.out)
            subst hbc
            go_wp2_with fail
            refine (samVR (c := true) HYB.out HYC.out (sameFrom_self _)).mono ?_
            rintro e w10 ⟨rfl, kk⟩
            have K := Lib.hid (K.out.trans kk)
            clear kk
            go_wp2
            go_ret
            exact ⟨rfl, HKZ.out.trans K.out⟩

end Go.Proofs.YtfpgekjhcfoohabGreat
