/- Package by package: contracts of the functions that the laws call. -/
import Derived.Test.YtapnffejnhkoaaaGreatStC
import Derived.Test.YtapnffejnhkoaaaGreatNodRefFind
import Derived.Test.YtapnffejnhkoaaaGreatRefVecAdd
import Derived.Deep.RegionHeld3
import Derived.Test.YtapnffejnhkoaaaGreatStA
import Derived.Test.YtapnffejnhkoaaaGreatPodRefAll
import Derived.Test.YtapnffejnhkoaaaGreatBudR
import Derived.Test.YtapnffejnhkoaaaGreatResC
import Derived.Test.YtapnffejnhkoaaaGreatPodLow
import Derived.Test.YtapnffejnhkoaaaGreatStE

/- Clusters: what is in use, all that there is, as the reference tells. -/
namespace Go.Proofs.YtapnffejnhkoaaaGreat
open Go.RowKit
set_option linter.unusedVariables false

def RVec (r : Int × Vec.V) (w : World) (e : Ending) (w' : World) : Prop := ∃ y, e = .returned (.tuple #[y, .int .i64 r.1]) ∧ Vec.Reads w' y r.2 ∧ Kept w w'
theorem RVec.mk' {r : Int × Vec.V} {c : Int} {l : Vec.V} {y : Value} {w w' : World} (h : r = (c, l)) (g : Vec.Reads w' y l) (k : Kept w w') : RVec r w (.returned (.tuple #[y, .int .i64 c])) w' := by
  subst h; exact ⟨y, rfl, g, k⟩
theorem vec_nil (w : World) : Vec.Reads w (.slice none 0 0) [] := Vec.Reads.nil w
theorem find_name {l : List Nod} {x : ByteArray} {n : Nod} (h : findN l x = some n) : n.name = x :=
  eqS_iff.1 (List.find?_some (p := fun n : Nod => eqS n.name x) h)
theorem used_none {s : Clu} {x : ByteArray} (h : findN s.nodes x = none) : usedSt s x = (3, []) := by unfold usedSt; rw [h]
theorem used_some {s : Clu} {x : ByteArray} {n : Nod} (h : findN s.nodes x = some n) : usedSt s x = useV x s.pods [] := by unfold usedSt; rw [h]; dsimp only; rw [find_name h]
set_option maxRecDepth 100000 in
set_option maxHeartbeats 6400000 in
theorem rusedStR {v : Value} {s : Clu} {w : World} (h : CluR w v s) (x : ByteArray) : Calls Tryz.prog 55 #[v, .string x] w (RVec (usedSt s x) w) := by
  obtain ⟨v1, v2, v3, rfl, ⟨a, cap, rfl, l1, m1, h1⟩, ⟨b, cp, rfl, l2, m2, h2⟩, ⟨d, cb, rfl, l3, m3, h3⟩⟩ := h
  obtain ⟨nl, pl, bl⟩ := s
  dsimp only at *
  obtain ⟨len, hlen⟩ : ∃ q, nl.length = q := ⟨_, rfl⟩
  obtain ⟨m, hm⟩ : ∃ q, pl.length = q := ⟨_, rfl⟩
  obtain ⟨n, hn⟩ : ∃ q, bl.length = q := ⟨_, rfl⟩
  rw [hlen] at h1 l1
  rw [hm] at h2 l2
  rw [hn] at h3 l3
  try rw [hlen]
  try rw [hm]
  try rw [hn]
  clear hn
  obtain ⟨Z, hZ⟩ : ∃ Z, w.alloc (.cells #[.slice a len cap, .slice b m cp, .slice d n cb] 67) = Z := ⟨_, rfl⟩
  have hkz : Kept w Z := by rw [← hZ]; exact kept_alloc _ _
  have HQ := Lib.hid (show CellsN w.heap.size [.slice a len cap, .slice b m cp, .slice d n cb] Z from freshN w (.slice a len cap) [.slice b m cp, .slice d n cb] 67 Z (by rw [hZ]; exact Kept.refl _))
  have HN := Lib.hid (h1.kept hkz)
  have HP := Lib.hid (h2.kept hkz)
  have HNR := Lib.hid (nodes_at l1 m1 (h1.kept hkz))
  have HKZ := Lib.hid hkz
  have HL1 := Lib.hid hlen
  have HL2 := Lib.hid hm
  have hml1 := Nat.le_trans l1 m1
  have hml2 := Nat.le_trans l2 m2
  unfold maxLen at hml1 hml2
  clear h1 h2 h3 l1 l2 l3 m1 m2 m3 hkz
  have cq0 := (HQ.out.kept (Kept.refl _)).at_ 0 _ rfl
  have cq1 := (HQ.out.kept (Kept.refl _)).at_ 1 _ rfl
  have cq2 := (HQ.out.kept (Kept.refl _)).at_ 2 _ rfl
  obtain ⟨o, ho⟩ : ∃ o, findN nl x = o := ⟨_, rfl⟩
  have HF := Lib.hid ho
  go_enter Tryz.func55, Tryz.ntmps55
  go_wp2_with fail
  try rw [hZ]
  clear hZ
  refine (rfindR HNR.out).mono ?_
  rw [ho]
  rintro e w1 ⟨v9, rfl, hr, kk⟩
  obtain ⟨nn, hnn⟩ : ∃ q, o.getD Nod.zero = q := ⟨_, rfl⟩
  rw [hnn] at hr
  obtain ⟨y1, y2, y3, rfl, hat⟩ := hr
  have g1 := hat.cap
  have g2 := hat.labels
  have g3 := hat.taints
  obtain ⟨b1, d1, rfl, -, -, -⟩ := g1
  obtain ⟨b2, d2, rfl, -, -, -⟩ := g2
  obtain ⟨b3, d3, rfl, -, -, -⟩ := g3
  unfold NodV
  obtain ⟨n1, hn1⟩ : ∃ q, nn.cap.length = q := ⟨_, rfl⟩
  obtain ⟨n2, hn2⟩ : ∃ q, nn.labels.length = q := ⟨_, rfl⟩
  obtain ⟨n3, hn3⟩ : ∃ q, nn.taints.length = q := ⟨_, rfl⟩
  rw [hn1, hn2, hn3]
  have K1 := Lib.hid kk
  clear hat kk hn1 hn2 hn3 hnn ho cq0 cq1 cq2
  obtain ⟨W1, hW1⟩ : ∃ W, w1.alloc (.cells #[.string nn.name, .slice b1 n1 d1, .slice b2 n2 d2, .slice b3 n3 d3, .bool nn.cordon] 106) = W := ⟨_, rfl⟩
  have K1 := Lib.hid (K1.out.trans (show Kept w1 W1 by rw [← hW1]; exact kept_alloc _ _))
  cases o with
  | none =>
    go_wp2
    try rw [hW1]
    go_ret2
    exact RVec.mk' (used_none HF.out) (vec_nil _) (HKZ.out.trans K1.out)
  | some nod =>
    have HU := Lib.hid (show usedSt ⟨nl, pl, bl⟩ x = useV x pl [] from used_some HF.out)
    have cq0 := (HQ.out.kept K1.out).at_ 0 _ rfl
    have cq1 := (HQ.out.kept K1.out).at_ 1 _ rfl
    have cq2 := (HQ.out.kept K1.out).at_ 2 _ rfl
    have HW := Lib.hid hW1
    clear hW1
    go_wp2
    try rw [HW.out]
    clear HW cq0 cq1 cq2
    go_loopw [8, 9] (fun s i wr => ∃ k : Nat, k ≤ m ∧ i = .int .i64 k ∧ ∃ acc : Vec.V, Vec.Reads wr s acc ∧ useV x (pl.drop k) acc = useV x pl [] ∧ Kept Z wr) (fun _ i _ => m - (intOf i).toNat)
    case atStart => exact ⟨0, Nat.zero_le _, rfl, [], vec_nil _, rfl, K1.out⟩
    case round =>
      obtain ⟨k, hk, rfl, acc, hacc, hrest, hK⟩ := hrel
      have HS := Lib.hid hrest
      have HA := Lib.hid hacc
      have HK := Lib.hid hK
      have cq0 := (HQ.out.kept hK).at_ 0 _ rfl
      have cq1 := (HQ.out.kept hK).at_ 1 _ rfl
      have cq2 := (HQ.out.kept hK).at_ 2 _ rfl
      by_cases hlt : k < m
      · obtain ⟨b9, off, rfl⟩ := HP.out.form.resolve_left (by omega)
        obtain ⟨n9, x1, y1, z1, x2, y2, z2, x3, y3, z3, x4, y4, z4, hn, hd, hb, p0, p1, p2, p3, p4, p5, p6, p7, p8, p9, p10, hat⟩ := (HP.out.kept hK).at_ hlt
        have HD := Lib.hid hd
        have hkk : (k : Int) < (m : Int) := by omega
        obtain ⟨e1, he1⟩ : ∃ e, eqS n9.node x = e := ⟨_, rfl⟩
        have he1' : (n9.node.toList == x.toList) = e1 := he1
        have he1n : (n9.node.toList != x.toList) = !e1 := by rw [bne, he1']
        have HE := Lib.hid he1
        cases e1 with
        | false =>
          have HX := Lib.hid (show useV x (pl.drop (k + 1)) acc = useV x pl [] by rw [← hrest, hd, useV_skip he1])
          clear hacc hrest hK hat hn hd he1
          go_wp2
          go_roundw
          case rel => exact ⟨k + 1, by omega, by go_num, acc, HA.out, HX.out, HK.out⟩
          case measure => simp [intOf]; omega
        | true =>
          obtain ⟨c, mm, hcm⟩ : ∃ c mm, Vec.mergedV Vec.addF acc n9.need = (c, mm) := ⟨_, _, rfl⟩
          have HC := Lib.hid hcm
          have HCC := Lib.hid (Vec.raddvR hacc hat.need hcm)
          clear hacc hrest hK hat hn hd he1 hcm
          go_wp2_with fail
          refine HCC.out.mono ?_
          rintro e w2 ⟨y, rfl, hy, kk⟩
          have K2 := Lib.hid (HK.out.trans kk)
          have HY := Lib.hid hy
          clear hy kk
          by_cases hc : c = 0
          · subst hc
            have HX := Lib.hid (show useV x (pl.drop (k + 1)) mm = useV x pl [] by rw [← HS.out, HD.out, useV_add HE.out HC.out])
            go_wp2
            go_roundw
            case rel => exact ⟨k + 1, by omega, by go_num, mm, HY.out, HX.out, K2.out⟩
            case measure => simp [intOf]; omega
          · have HX := Lib.hid (show useV x pl [] = (c, []) by rw [← HS.out, HD.out, useV_bad HE.out HC.out hc])
            have hcn : (c != 0) = true := by simpa using hc
            clear hc
            go_wp2
            go_ret2
            exact RVec.mk' (HU.out.trans HX.out) (vec_nil _) (HKZ.out.trans K2.out)
      · have HX := Lib.hid (show useV x pl [] = (0, acc) by rw [← hrest, List.drop_of_length_le (by rw [HL2.out]; omega)]; rfl)
        have hkk : ¬ (k : Int) < (m : Int) := by omega
        clear hacc hrest hK
        go_wp2
        go_ret2
        exact RVec.mk' (HU.out.trans HX.out) HA.out (HKZ.out.trans HK.out)
set_option maxRecDepth 100000 in
set_option maxHeartbeats 6400000 in
theorem rtotalStR {v : Value} {s : Clu} {w : World} (h : CluR w v s) : Calls Tryz.prog 57 #[v] w (RVec (totalSt s) w) := by
  obtain ⟨v1, v2, v3, rfl, ⟨a, cap, rfl, l1, m1, h1⟩, ⟨b, cp, rfl, l2, m2, h2⟩, ⟨d, cb, rfl, l3, m3, h3⟩⟩ := h
  obtain ⟨nl, pl, bl⟩ := s
  dsimp only at *
  obtain ⟨len, hlen⟩ : ∃ q, nl.length = q := ⟨_, rfl⟩
  obtain ⟨m, hm⟩ : ∃ q, pl.length = q := ⟨_, rfl⟩
  obtain ⟨n, hn⟩ : ∃ q, bl.length = q := ⟨_, rfl⟩
  rw [hlen] at h1 l1
  rw [hm] at h2 l2
  rw [hn] at h3 l3
  try rw [hlen]
  try rw [hm]
  try rw [hn]
  clear hn
  obtain ⟨Z, hZ⟩ : ∃ Z, w.alloc (.cells #[.slice a len cap, .slice b m cp, .slice d n cb] 67) = Z := ⟨_, rfl⟩
  have hkz : Kept w Z := by rw [← hZ]; exact kept_alloc _ _
  have HQ := Lib.hid (show CellsN w.heap.size [.slice a len cap, .slice b m cp, .slice d n cb] Z from freshN w (.slice a len cap) [.slice b m cp, .slice d n cb] 67 Z (by rw [hZ]; exact Kept.refl _))
  have HN := Lib.hid (h1.kept hkz)
  have HP := Lib.hid (h2.kept hkz)
  have HNR := Lib.hid (nodes_at l1 m1 (h1.kept hkz))
  have HKZ := Lib.hid hkz
  have HL1 := Lib.hid hlen
  have HL2 := Lib.hid hm
  have hml1 := Nat.le_trans l1 m1
  have hml2 := Nat.le_trans l2 m2
  unfold maxLen at hml1 hml2
  clear h1 h2 h3 l1 l2 l3 m1 m2 m3 hkz
  have cq0 := (HQ.out.kept (Kept.refl _)).at_ 0 _ rfl
  have cq1 := (HQ.out.kept (Kept.refl _)).at_ 1 _ rfl
  have cq2 := (HQ.out.kept (Kept.refl _)).at_ 2 _ rfl
  show Calls _ _ _ _ (RVec (totV nl []) w)
  go_enter Tryz.func57, Tryz.ntmps57
  go_wp2
  try rw [hZ]
  clear hZ cq0 cq1 cq2
  go_loopw [4, 5] (fun s i wr => ∃ k : Nat, k ≤ len ∧ i = .int .i64 k ∧ ∃ acc : Vec.V, Vec.Reads wr s acc ∧ totV (nl.drop k) acc = totV nl [] ∧ Kept Z wr) (fun _ i _ => len - (intOf i).toNat)
  case atStart => exact ⟨0, Nat.zero_le _, rfl, [], vec_nil _, rfl, Kept.refl _⟩
  case round =>
    obtain ⟨k, hk, rfl, acc, hacc, hrest, hK⟩ := hrel
    have HS := Lib.hid hrest
    have HA := Lib.hid hacc
    have HK := Lib.hid hK
    have cq0 := (HQ.out.kept hK).at_ 0 _ rfl
    have cq1 := (HQ.out.kept hK).at_ 1 _ rfl
    have cq2 := (HQ.out.kept hK).at_ 2 _ rfl
    by_cases hlt : k < len
    · obtain ⟨b9, off, rfl⟩ := HN.out.form.resolve_left (by omega)
      obtain ⟨n9, x1, y1, z1, x2, y2, z2, x3, y3, z3, hn, hd, hb, p0, p1, p2, p3, p4, hat⟩ := (HN.out.kept hK).at_ hlt
      have HD := Lib.hid hd
      have hkk : (k : Int) < (len : Int) := by omega
      obtain ⟨c, mm, hcm⟩ : ∃ c mm, Vec.mergedV Vec.addF acc n9.cap = (c, mm) := ⟨_, _, rfl⟩
      have HC := Lib.hid hcm
      have HCC := Lib.hid (Vec.raddvR hacc hat.cap hcm)
      clear hacc hrest hK hat hn hd hcm
      go_wp2_with fail
      refine HCC.out.mono ?_
      rintro e w2 ⟨y, rfl, hy, kk⟩
      have K2 := Lib.hid (HK.out.trans kk)
      have HY := Lib.hid hy
      clear hy kk
      by_cases hc : c = 0
      · subst hc
        have HX := Lib.hid (show totV (nl.drop (k + 1)) mm = totV nl [] by rw [← HS.out, HD.out, totV_add HC.out])
        go_wp2
        go_roundw
        case rel => exact ⟨k + 1, by omega, by go_num, mm, HY.out, HX.out, K2.out⟩
        case measure => simp [intOf]; omega
      · have HX := Lib.hid (show totV nl [] = (c, []) by rw [← HS.out, HD.out, totV_bad HC.out hc])
        have hcn : (c != 0) = true := by simpa using hc
        clear hc
        go_wp2
        go_ret2
        exact RVec.mk' HX.out (vec_nil _) (HKZ.out.trans K2.out)
    · have HX := Lib.hid (show totV nl [] = (0, acc) by rw [← hrest, List.drop_of_length_le (by rw [HL1.out]; omega)]; rfl)
      have hkk : ¬ (k : Int) < (len : Int) := by omega
      clear hacc hrest hK
      go_wp2
      go_ret2
      exact RVec.mk' HX.out HA.out (HKZ.out.trans HK.out)

end Go.Proofs.YtapnffejnhkoaaaGreat

/- Clusters: whether one may be, as the reference tells. -/
namespace Go.Proofs.YtapnffejnhkoaaaGreat
open Go.RowKit
set_option linter.unusedVariables false

theorem rfitsQ {v v' : Value} {l l' : Vec.V} {c : Bool} {w : World} (h : Vec.Reads w v l) (h' : Vec.Reads w v' l') (e : Vec.fitsFrom l' l = c) :
    Calls Tryz.prog 56 #[v, v'] w (Say (.bool c) w) := by
  subst e
  obtain ⟨a, cap, rfl, _, _, h3⟩ := h
  obtain ⟨a', cap', rfl, _, _, h3'⟩ := h'
  exact Vec.rfits_any a a' _ cap _ cap' l l' w h3 h3'
theorem used_mem {s : Clu} {n : Nod} (h : n ∈ s.nodes) : usedSt s n.name = useV n.name s.pods [] := by
  cases hf : findN s.nodes n.name with
  | some n' => exact used_some hf
  | none =>
    unfold findN at hf
    have := List.find?_eq_none.1 hf n h
    exact absurd (eqS_self n.name) (by simpa using this)
set_option maxRecDepth 100000 in
set_option maxHeartbeats 12800000 in
theorem rcheckStR {v : Value} {s : Clu} {c : Int} {w : World} (h : CluR w v s) (hcc : chkSt s = c) : Calls Tryz.prog 22 #[v] w (Say (.int .i64 c) w) := by
  subst hcc
  have h0 := h
  obtain ⟨v1, v2, v3, rfl, ⟨a, cap, rfl, l1, m1, h1⟩, ⟨b, cp, rfl, l2, m2, h2⟩, ⟨d, cb, rfl, l3, m3, h3⟩⟩ := h
  obtain ⟨nl, pl, bl⟩ := s
  dsimp only at *
  obtain ⟨len, hlen⟩ : ∃ q, nl.length = q := ⟨_, rfl⟩
  obtain ⟨m, hm⟩ : ∃ q, pl.length = q := ⟨_, rfl⟩
  obtain ⟨n, hn⟩ : ∃ q, bl.length = q := ⟨_, rfl⟩
  rw [hlen] at h1 l1
  rw [hm] at h2 l2
  rw [hn] at h3 l3
  try rw [hlen]
  try rw [hm]
  try rw [hn]
  clear hn
  rw [hlen, hm] at h0
  have hn3 : bl.length = n := h3.1
  rw [hn3] at h0
  obtain ⟨Z, hZ⟩ : ∃ Z, w.alloc (.cells #[.slice a len cap, .slice b m cp, .slice d n cb] 67) = Z := ⟨_, rfl⟩
  have hkz : Kept w Z := by rw [← hZ]; exact kept_alloc _ _
  have HQ := Lib.hid (show CellsN w.heap.size [.slice a len cap, .slice b m cp, .slice d n cb] Z from freshN w (.slice a len cap) [.slice b m cp, .slice d n cb] 67 Z (by rw [hZ]; exact Kept.refl _))
  have HN := Lib.hid (h1.kept hkz)
  have HP := Lib.hid (h2.kept hkz)
  have HC0 := Lib.hid (h0.kept hkz)
  have HNR := Lib.hid (nodes_at l1 m1 (h1.kept hkz))
  have HPR := Lib.hid (pods_at l2 m2 (h2.kept hkz))
  have HBR := Lib.hid (buds_at l3 m3 (h3.kept hkz))
  have HKZ := Lib.hid hkz
  have HL1 := Lib.hid hlen
  have HL2 := Lib.hid hm
  have hml1 := Nat.le_trans l1 m1
  have hml2 := Nat.le_trans l2 m2
  unfold maxLen at hml1 hml2
  clear h1 h2 h3 h0 l1 l2 l3 m1 m2 m3 hkz hn3
  obtain ⟨x1, hx1⟩ : ∃ q, chkAllN nl = q := ⟨_, rfl⟩
  have Hx1 := Lib.hid hx1
  obtain ⟨x2, hx2⟩ : ∃ q, chkAllP pl = q := ⟨_, rfl⟩
  have Hx2 := Lib.hid hx2
  obtain ⟨x3, hx3⟩ : ∃ q, chkAllBd bl = q := ⟨_, rfl⟩
  have Hx3 := Lib.hid hx3
  have cq0 := (HQ.out.kept (Kept.refl _)).at_ 0 _ rfl
  have cq1 := (HQ.out.kept (Kept.refl _)).at_ 1 _ rfl
  have cq2 := (HQ.out.kept (Kept.refl _)).at_ 2 _ rfl
  go_enter Tryz.func22, Tryz.ntmps22
  go_wp2_with fail
  try rw [hZ]
  clear hZ
  refine (rcheckAllR HNR.out hx1).mono ?_
  rintro e w1 ⟨rfl, kk⟩
  have K := Lib.hid kk
  clear kk hx1 cq0 cq1 cq2
  have cq0 := (HQ.out.kept K.out).at_ 0 _ rfl
  have cq1 := (HQ.out.kept K.out).at_ 1 _ rfl
  have cq2 := (HQ.out.kept K.out).at_ 2 _ rfl
  by_cases hc : ¬ x1 = 0
  · have HX := Lib.hid (st_or (nl := nl) (pl := pl) (bl := bl) (c := x1) (by unfold or3; rw [Hx1.out, if_pos hc]) hc)
    have hcn : (x1 != 0) = true := by simpa using hc
    clear hc
    go_wp2
    go_ret
    exact ⟨ret_i64 HX.out.symm, HKZ.out.trans K.out⟩
  obtain rfl : x1 = 0 := Decidable.of_not_not hc
  clear hc
  go_wp2_with fail
  refine (rcheckAllPR (HPR.out.kept K.out) hx2).mono ?_
  rintro e w2 ⟨rfl, kk⟩
  have K := Lib.hid (K.out.trans kk)
  clear kk hx2 cq0 cq1 cq2
  have cq0 := (HQ.out.kept K.out).at_ 0 _ rfl
  have cq1 := (HQ.out.kept K.out).at_ 1 _ rfl
  have cq2 := (HQ.out.kept K.out).at_ 2 _ rfl
  by_cases hc : ¬ x2 = 0
  · have HX := Lib.hid (st_or (nl := nl) (pl := pl) (bl := bl) (c := x2) (by unfold or3; rw [Hx1.out, Hx2.out, if_neg (by decide), if_pos hc]) hc)
    have hcn : (x2 != 0) = true := by simpa using hc
    clear hc
    go_wp2
    go_ret
    exact ⟨ret_i64 HX.out.symm, HKZ.out.trans K.out⟩
  obtain rfl : x2 = 0 := Decidable.of_not_not hc
  clear hc
  go_wp2_with fail
  refine (rcheckAllBR (HBR.out.kept K.out) hx3).mono ?_
  rintro e w3 ⟨rfl, kk⟩
  have K := Lib.hid (K.out.trans kk)
  clear kk hx3 cq0 cq1 cq2
  have cq0 := (HQ.out.kept K.out).at_ 0 _ rfl
  have cq1 := (HQ.out.kept K.out).at_ 1 _ rfl
  have cq2 := (HQ.out.kept K.out).at_ 2 _ rfl
  by_cases hc : ¬ x3 = 0
  · have HX := Lib.hid (st_or (nl := nl) (pl := pl) (bl := bl) (c := x3) (by unfold or3; rw [Hx1.out, Hx2.out, Hx3.out, if_neg (by decide), if_neg (by decide)]) hc)
    have hcn : (x3 != 0) = true := by simpa using hc
    clear hc
    go_wp2
    go_ret
    exact ⟨ret_i64 HX.out.symm, HKZ.out.trans K.out⟩
  obtain rfl : x3 = 0 := Decidable.of_not_not hc
  clear hc
  have HOR := Lib.hid (show or3 (chkAllN nl) (chkAllP pl) (chkAllBd bl) = 0 by unfold or3; rw [Hx1.out, Hx2.out, Hx3.out]; rfl)
  clear Hx1 Hx2 Hx3
  go_wp2
  clear cq0 cq1 cq2
  go_loopw [4] (fun i wr => ∃ k : Nat, k ≤ m ∧ i = .int .i64 k ∧ chkPlaces nl (pl.drop k) = chkPlaces nl pl ∧ Kept Z wr) (fun i _ => m - (intOf i).toNat)
  case atStart => exact ⟨0, Nat.zero_le _, rfl, rfl, K.out⟩
  case round =>
    obtain ⟨k, hk, rfl, hrest, hK⟩ := hrel
    have HS := Lib.hid hrest
    have HK := Lib.hid hK
    have cq0 := (HQ.out.kept hK).at_ 0 _ rfl
    have cq1 := (HQ.out.kept hK).at_ 1 _ rfl
    have cq2 := (HQ.out.kept hK).at_ 2 _ rfl
    by_cases hlt : k < m
    · obtain ⟨b9, off, rfl⟩ := HP.out.form.resolve_left (by omega)
      obtain ⟨pd, x1, y1, z1, x2, y2, z2, x3, y3, z3, x4, y4, z4, hn, hd, hb, p0, p1, p2, p3, p4, p5, p6, p7, p8, p9, p10, hat⟩ := (HP.out.kept hK).at_ hlt
      have HD := Lib.hid hd
      have hkk : (k : Int) < (m : Int) := by omega
      have hk0 : ¬ (k : Int) < 0 := by omega
      obtain ⟨t, ht⟩ : ∃ t, (pd.node.toList == ([] : List UInt8)) = t := ⟨_, rfl⟩
      have HNO := Lib.hid (show isNo pd.node = t by rw [no_iff]; exact ht)
      clear hrest hat hn hd
      cases t with
        | true =>
          have HX := Lib.hid (show chkPlaces nl (pl.drop (k + 1)) = chkPlaces nl pl by rw [← HS.out, HD.out, places_none HNO.out])
          clear hK
          go_wp2
          go_roundw
          case rel => exact ⟨k + 1, by omega, by go_num, HX.out, HK.out⟩
          case measure => simp [intOf]; omega
        | false =>
          have HF := Lib.hid (show ∀ W, Kept wr W → W.cell? ⟨w.heap.size, 0, none⟩ = some (.slice a len cap) ∧ W.cell? ⟨w.heap.size, 1, none⟩ = some (.slice (some ⟨b9, off, none⟩) m cp) ∧ W.cell? ⟨b9, off + k * 11, none⟩ = some (.string pd.name) ∧ W.cell? ⟨b9, off + k * 11 + 1, none⟩ = some (.string pd.owner) ∧ W.cell? ⟨b9, off + k * 11 + 2, none⟩ = some (.int .i64 pd.prio) ∧ W.cell? ⟨b9, off + k * 11 + 3, none⟩ = some (.slice x1 y1 z1) ∧ W.cell? ⟨b9, off + k * 11 + 4, none⟩ = some (.slice x2 y2 z2) ∧ W.cell? ⟨b9, off + k * 11 + 5, none⟩ = some (.slice x3 y3 z3) ∧ W.cell? ⟨b9, off + k * 11 + 6, none⟩ = some (.slice x4 y4 z4) ∧ W.cell? ⟨b9, off + k * 11 + 7, none⟩ = some (.string pd.key) ∧ W.cell? ⟨b9, off + k * 11 + 8, none⟩ = some (.int .i64 pd.most) ∧ W.cell? ⟨b9, off + k * 11 + 9, none⟩ = some (.string pd.node) ∧ W.cell? ⟨b9, off + k * 11 + 10, none⟩ = some (.bool pd.hold) from fun W kk => ⟨cell_later kk cq0, cell_later kk cq1, cell_later kk p0, cell_later kk p1, cell_later kk p2, cell_later kk p3, cell_later kk p4, cell_later kk p5, cell_later kk p6, cell_later kk p7, cell_later kk p8, cell_later kk p9, cell_later kk p10⟩)
          obtain ⟨o, ho⟩ : ∃ o, findN nl pd.node = o := ⟨_, rfl⟩
          have HFD := Lib.hid ho
          have HCC := Lib.hid (fun W (kk : Kept wr W) => rfindR (x := pd.node) (HNR.out.kept (HK.out.trans kk)))
          rw [ho] at HCC
          clear hK ho
          go_upto_region 14 with fail
          go_cut [5, 6] from 42 to 54 (fun s5 s6 wx => s6 = .bool o.isSome ∧ Kept wr wx)
          case first =>
            refine wp_region_held_drew (S := fun W => W.cell? ⟨w.heap.size, 0, none⟩ = some (.slice a len cap) ∧ W.cell? ⟨w.heap.size, 1, none⟩ = some (.slice (some ⟨b9, off, none⟩) m cp) ∧ W.cell? ⟨b9, off + k * 11, none⟩ = some (.string pd.name) ∧ W.cell? ⟨b9, off + k * 11 + 1, none⟩ = some (.string pd.owner) ∧ W.cell? ⟨b9, off + k * 11 + 2, none⟩ = some (.int .i64 pd.prio) ∧ W.cell? ⟨b9, off + k * 11 + 3, none⟩ = some (.slice x1 y1 z1) ∧ W.cell? ⟨b9, off + k * 11 + 4, none⟩ = some (.slice x2 y2 z2) ∧ W.cell? ⟨b9, off + k * 11 + 5, none⟩ = some (.slice x3 y3 z3) ∧ W.cell? ⟨b9, off + k * 11 + 6, none⟩ = some (.slice x4 y4 z4) ∧ W.cell? ⟨b9, off + k * 11 + 7, none⟩ = some (.string pd.key) ∧ W.cell? ⟨b9, off + k * 11 + 8, none⟩ = some (.int .i64 pd.most) ∧ W.cell? ⟨b9, off + k * 11 + 9, none⟩ = some (.string pd.node) ∧ W.cell? ⟨b9, off + k * 11 + 10, none⟩ = some (.bool pd.hold)) (by kernel_rfl) (HF.out _ (Kept.drew _)) (fun hHeld => ?_)
            refine wpAnyH_take (i := 0) (v := ?_) (by rw [List.getElem?_toArray]; exact rfl) (by kernel_rfl) (by kernel_rfl) (by kernel_rfl) (by exact fun _ _ _ h => h) (Or.inl ⟨by rfl, (by intro W hSw; obtain ⟨o0, o1, o2, o3, o4, o5, o6, o7, o8, o9, o10, o11, o12⟩ := hSw; go_simp <;> with_reducible rfl)⟩) (by assumption) ?_
            try simp only [Act.put, List.setIfInBounds_toArray, List.set_cons_zero, List.set_cons_succ]
            refine wpAnyH_take (i := 1) (v := ?_) (by rw [List.getElem?_toArray]; exact rfl) (by kernel_rfl) (by kernel_rfl) (by kernel_rfl) (by exact fun _ _ _ h => h) (Or.inl ⟨by rfl, (by intro W hSw; obtain ⟨o0, o1, o2, o3, o4, o5, o6, o7, o8, o9, o10, o11, o12⟩ := hSw; go_simp <;> with_reducible rfl)⟩) (by assumption) ?_
            try simp only [Act.put, List.setIfInBounds_toArray, List.set_cons_zero, List.set_cons_succ]
            refine wpAnyH_take (i := 2) (v := ?_) (by rw [List.getElem?_toArray]; exact rfl) (by kernel_rfl) (by kernel_rfl) (by kernel_rfl) (by exact fun _ _ _ h => h) (Or.inl ⟨by rfl, (by intro W hSw; obtain ⟨o0, o1, o2, o3, o4, o5, o6, o7, o8, o9, o10, o11, o12⟩ := hSw; go_simp <;> with_reducible rfl)⟩) (by assumption) ?_
            try simp only [Act.put, List.setIfInBounds_toArray, List.set_cons_zero, List.set_cons_succ]
            refine wpAnyH_take (i := 3) (v := ?_) (by rw [List.getElem?_toArray]; exact rfl) (by kernel_rfl) (by kernel_rfl) (by kernel_rfl) (by exact fun _ _ _ h => h) (Or.inl ⟨by rfl, (by intro W hSw; obtain ⟨o0, o1, o2, o3, o4, o5, o6, o7, o8, o9, o10, o11, o12⟩ := hSw; go_simp <;> with_reducible rfl)⟩) (by assumption) ?_
            try simp only [Act.put, List.setIfInBounds_toArray, List.set_cons_zero, List.set_cons_succ]
            refine wpAnyH_take (i := 4) (v := ?_) (by rw [List.getElem?_toArray]; exact rfl) (by kernel_rfl) (by kernel_rfl) (by kernel_rfl) (by exact fun _ _ _ h => h) (Or.inl ⟨by rfl, (by intro W hSw; obtain ⟨o0, o1, o2, o3, o4, o5, o6, o7, o8, o9, o10, o11, o12⟩ := hSw; go_simp <;> with_reducible rfl)⟩) (by assumption) ?_
            try simp only [Act.put, List.setIfInBounds_toArray, List.set_cons_zero, List.set_cons_succ]
            refine wpAnyH_take (i := 5) (v := ?_) (by rw [List.getElem?_toArray]; exact rfl) (by kernel_rfl) (by kernel_rfl) (by kernel_rfl) (by exact fun _ _ _ h => h) (Or.inl ⟨by rfl, (by intro W hSw; obtain ⟨o0, o1, o2, o3, o4, o5, o6, o7, o8, o9, o10, o11, o12⟩ := hSw; go_simp <;> with_reducible rfl)⟩) (by assumption) ?_
            try simp only [Act.put, List.setIfInBounds_toArray, List.set_cons_zero, List.set_cons_succ]
            refine wpAnyH_take (i := 6) (v := ?_) (by rw [List.getElem?_toArray]; exact rfl) (by kernel_rfl) (by kernel_rfl) (by kernel_rfl) (by exact fun _ _ _ h => h) (Or.inl ⟨by rfl, (by intro W hSw; obtain ⟨o0, o1, o2, o3, o4, o5, o6, o7, o8, o9, o10, o11, o12⟩ := hSw; go_simp <;> with_reducible rfl)⟩) (by assumption) ?_
            try simp only [Act.put, List.setIfInBounds_toArray, List.set_cons_zero, List.set_cons_succ]
            refine wpAnyH_take (i := 7) (v := ?_) (by rw [List.getElem?_toArray]; exact rfl) (by kernel_rfl) (by kernel_rfl) (by kernel_rfl) (by exact fun _ _ _ h => h) (Or.inl ⟨by rfl, (by intro W hSw; obtain ⟨o0, o1, o2, o3, o4, o5, o6, o7, o8, o9, o10, o11, o12⟩ := hSw; go_simp <;> with_reducible rfl)⟩) (by assumption) ?_
            try simp only [Act.put, List.setIfInBounds_toArray, List.set_cons_zero, List.set_cons_succ]
            have J0 := Lib.hid (Kept.drew wr)
            refine wpAnyH_ready (rs := [8, 12]) (by kernel_rfl) (by simp) (AllReadyH.cons (by rw [List.getElem?_toArray]; exact rfl) (fun K9 hK9 => ?_) (AllReadyH.cons (by rw [List.getElem?_toArray]; exact rfl) (fun K9 hK9 => ?_) AllReadyH.nil))
            · go_simp
              refine (HCC.out _ J0.out).mono ?_
              rintro e w5 ⟨v9, rfl, hr, kk⟩
              have J0 := Lib.hid (J0.out.trans kk)
              obtain ⟨nn, hnn⟩ : ∃ q, o.getD Nod.zero = q := ⟨_, rfl⟩
              rw [hnn] at hr
              obtain ⟨y1, y2, y3, rfl, hat⟩ := hr
              have g1 := hat.cap
              have g2 := hat.labels
              have g3 := hat.taints
              obtain ⟨b1, d1, rfl, -, -, -⟩ := g1
              obtain ⟨b2, d2, rfl, -, -, -⟩ := g2
              obtain ⟨b3, d3, rfl, -, -, -⟩ := g3
              unfold NodV
              obtain ⟨n1, hn1⟩ : ∃ q, nn.cap.length = q := ⟨_, rfl⟩
              obtain ⟨n2, hn2⟩ : ∃ q, nn.labels.length = q := ⟨_, rfl⟩
              obtain ⟨n3, hn3⟩ : ∃ q, nn.taints.length = q := ⟨_, rfl⟩
              rw [hn1, hn2, hn3]
              clear hat kk hn1 hn2 hn3 hnn
              refine hK9.out _ _ (HF.out _ J0.out) (fun hHeld31 => ?_)
              clear hK9 K9
              try simp only [Act.put, List.setIfInBounds_toArray, List.set_cons_zero, List.set_cons_succ]
              refine wpAnyH_take (i := 9) (v := ?_) (by rw [List.getElem?_toArray]; exact rfl) (by kernel_rfl) (by kernel_rfl) (by kernel_rfl) (by exact fun _ _ _ h => h) (Or.inl ⟨by rfl, (by intro W hSw; obtain ⟨o0, o1, o2, o3, o4, o5, o6, o7, o8, o9, o10, o11, o12⟩ := hSw; go_simp <;> with_reducible rfl)⟩) (by assumption) ?_
              try simp only [Act.put, List.setIfInBounds_toArray, List.set_cons_zero, List.set_cons_succ]
              refine wpAnyH_take (i := 10) (v := ?_) (by rw [List.getElem?_toArray]; exact rfl) (by kernel_rfl) (by kernel_rfl) (by kernel_rfl) (by exact fun _ _ _ h => h) (Or.inl ⟨by rfl, (by intro W hSw; obtain ⟨o0, o1, o2, o3, o4, o5, o6, o7, o8, o9, o10, o11, o12⟩ := hSw; go_simp <;> with_reducible rfl)⟩) (by assumption) ?_
              try simp only [Act.put, List.setIfInBounds_toArray, List.set_cons_zero, List.set_cons_succ]
              refine wpAnyH_take (i := 11) (v := ?_) (by rw [List.getElem?_toArray]; exact rfl) (by kernel_rfl) (by kernel_rfl) (by kernel_rfl) (by exact fun _ _ _ h => h) (Or.inl ⟨by rfl, (by intro W hSw; obtain ⟨o0, o1, o2, o3, o4, o5, o6, o7, o8, o9, o10, o11, o12⟩ := hSw; go_simp <;> with_reducible rfl)⟩) (by assumption) ?_
              try simp only [Act.put, List.setIfInBounds_toArray, List.set_cons_zero, List.set_cons_succ]
              refine wpAnyH_ready (rs := [12]) (by kernel_rfl) (by simp) (AllReadyH.cons (by rw [List.getElem?_toArray]; exact rfl) (fun K9 hK9 => ?_) AllReadyH.nil)
              go_simp
              have HQA := Lib.hid (freshN w5 (.string ⟨#[]⟩) [.slice none 0 0, .slice none 0 0, .slice none 0 0, .bool false] 106 _ (Kept.refl _))
              have HQB := Lib.hid J0.out.size
              have J0 := Lib.hid (J0.out.trans (kept_alloc w5 (.cells #[.string ⟨#[]⟩, .slice none 0 0, .slice none 0 0, .slice none 0 0, .bool false] 106)))
              refine hK9.out _ _ (HF.out _ J0.out) (fun hHeldA => ?_)
              clear hK9 K9
              try simp only [Act.put, List.setIfInBounds_toArray, List.set_cons_zero, List.set_cons_succ]
              obtain ⟨wa, hwa⟩ : ∃ W, w5.alloc (.cells #[.string ⟨#[]⟩, .slice none 0 0, .slice none 0 0, .slice none 0 0, .bool false] 106) = W := ⟨_, rfl⟩
              rw [hwa] at J0 HQA ⊢
              obtain ⟨qa, hqa⟩ : ∃ q, w5.heap.size = q := ⟨_, rfl⟩
              rw [hqa] at HQB
              rw [hqa] at HQA ⊢
              clear hwa hqa
              have z0 := HQA.out.at_ 0 _ rfl
              have z1 := HQA.out.at_ 1 _ rfl
              have z2 := HQA.out.at_ 2 _ rfl
              have z3 := HQA.out.at_ 3 _ rfl
              have z4 := HQA.out.at_ 4 _ rfl
              have f0 := HQA.out.free 0
              have f1 := HQA.out.free 1
              have f2 := HQA.out.free 2
              have f3 := HQA.out.free 3
              have f4 := HQA.out.free 4
              refine wpAnyH_ready (rs := [13]) (by kernel_rfl) (by simp) (AllReadyH.cons (by rw [List.getElem?_toArray]; exact rfl) (fun K9 hK9 => ?_) AllReadyH.nil)
              go_simp
              obtain ⟨WE, hWE⟩ : ∃ W, wa.setCells qa 0 [.string nn.name, .slice b1 n1 d1, .slice b2 n2 d2, .slice b3 n3 d3, .bool nn.cordon] = W := ⟨_, rfl⟩
              have hWE2 : (((((wa.setCell ⟨qa, 0, none⟩ (.string nn.name)).setCell ⟨qa, 1, none⟩ (.slice b1 n1 d1)).setCell ⟨qa, 2, none⟩ (.slice b2 n2 d2)).setCell ⟨qa, 3, none⟩ (.slice b3 n3 d3)).setCell ⟨qa, 4, none⟩ (.bool nn.cordon)) = WE := hWE
              try rw [hWE2]
              have JE := Lib.hid (show Kept wr WE by rw [← hWE]; exact setCells_below qa _ _ _ _ _ HQB.out J0.out)
              clear hWE hWE2 z0 f0 z1 f1 z2 f2 z3 f3 z4 f4
              refine hK9.out _ _ (HF.out _ JE.out) (fun hHeldS => ?_)
              clear hK9 K9
              try simp only [Act.put, List.setIfInBounds_toArray, List.set_cons_zero, List.set_cons_succ]
              refine wpAnyH_take (i := 14) (v := ?_) (by rw [List.getElem?_toArray]; exact rfl) (by kernel_rfl) (by kernel_rfl) (by kernel_rfl) (by exact fun _ _ _ h => h) (Or.inl ⟨by rfl, (by intro W hSw; obtain ⟨o0, o1, o2, o3, o4, o5, o6, o7, o8, o9, o10, o11, o12⟩ := hSw; go_simp <;> with_reducible rfl)⟩) (by assumption) ?_
              try simp only [Act.put, List.setIfInBounds_toArray, List.set_cons_zero, List.set_cons_succ]
              refine wpAnyH_done (by kernel_rfl) ?_ _
              go_wp2
              go_meet
              case rel => exact ⟨rfl, JE.out⟩
            · go_simp
              have HQA := Lib.hid (freshN wr (.string ⟨#[]⟩) [.slice none 0 0, .slice none 0 0, .slice none 0 0, .bool false] 106 _ (Kept.drew (wr.alloc (.cells #[.string ⟨#[]⟩, .slice none 0 0, .slice none 0 0, .slice none 0 0, .bool false] 106))))
              have J0 := Lib.hid ((kept_alloc wr (.cells #[.string ⟨#[]⟩, .slice none 0 0, .slice none 0 0, .slice none 0 0, .bool false] 106)).trans (Kept.drew _))
              skip
              refine hK9.out _ _ (HF.out _ J0.out) (fun hHeldA => ?_)
              clear hK9 K9
              try simp only [Act.put, List.setIfInBounds_toArray, List.set_cons_zero, List.set_cons_succ]
              obtain ⟨wa, hwa⟩ : ∃ W, (wr.alloc (.cells #[.string ⟨#[]⟩, .slice none 0 0, .slice none 0 0, .slice none 0 0, .bool false] 106)).drew = W := ⟨_, rfl⟩
              rw [hwa] at J0 HQA ⊢
              obtain ⟨qa, hqa⟩ : ∃ q, wr.heap.size = q := ⟨_, rfl⟩
              have HQB := Lib.hid (Nat.le_of_eq hqa)
              rw [hqa] at HQA ⊢
              clear hwa hqa
              refine wpAnyH_ready (rs := [8]) (by kernel_rfl) (by simp) (AllReadyH.cons (by rw [List.getElem?_toArray]; exact rfl) (fun K9 hK9 => ?_) AllReadyH.nil)
              go_simp
              refine (HCC.out _ J0.out).mono ?_
              rintro e w5 ⟨v9, rfl, hr, kk⟩
              have J0 := Lib.hid (J0.out.trans kk)
              obtain ⟨nn, hnn⟩ : ∃ q, o.getD Nod.zero = q := ⟨_, rfl⟩
              rw [hnn] at hr
              obtain ⟨y1, y2, y3, rfl, hat⟩ := hr
              have g1 := hat.cap
              have g2 := hat.labels
              have g3 := hat.taints
              obtain ⟨b1, d1, rfl, -, -, -⟩ := g1
              obtain ⟨b2, d2, rfl, -, -, -⟩ := g2
              obtain ⟨b3, d3, rfl, -, -, -⟩ := g3
              unfold NodV
              obtain ⟨n1, hn1⟩ : ∃ q, nn.cap.length = q := ⟨_, rfl⟩
              obtain ⟨n2, hn2⟩ : ∃ q, nn.labels.length = q := ⟨_, rfl⟩
              obtain ⟨n3, hn3⟩ : ∃ q, nn.taints.length = q := ⟨_, rfl⟩
              rw [hn1, hn2, hn3]
              have HQA := Lib.hid (HQA.out.kept kk)
              clear hat kk hn1 hn2 hn3 hnn
              refine hK9.out _ _ (HF.out _ J0.out) (fun hHeld61 => ?_)
              clear hK9 K9
              try simp only [Act.put, List.setIfInBounds_toArray, List.set_cons_zero, List.set_cons_succ]
              refine wpAnyH_take (i := 9) (v := ?_) (by rw [List.getElem?_toArray]; exact rfl) (by kernel_rfl) (by kernel_rfl) (by kernel_rfl) (by exact fun _ _ _ h => h) (Or.inl ⟨by rfl, (by intro W hSw; obtain ⟨o0, o1, o2, o3, o4, o5, o6, o7, o8, o9, o10, o11, o12⟩ := hSw; go_simp <;> with_reducible rfl)⟩) (by assumption) ?_
              try simp only [Act.put, List.setIfInBounds_toArray, List.set_cons_zero, List.set_cons_succ]
              refine wpAnyH_take (i := 10) (v := ?_) (by rw [List.getElem?_toArray]; exact rfl) (by kernel_rfl) (by kernel_rfl) (by kernel_rfl) (by exact fun _ _ _ h => h) (Or.inl ⟨by rfl, (by intro W hSw; obtain ⟨o0, o1, o2, o3, o4, o5, o6, o7, o8, o9, o10, o11, o12⟩ := hSw; go_simp <;> with_reducible rfl)⟩) (by assumption) ?_
              try simp only [Act.put, List.setIfInBounds_toArray, List.set_cons_zero, List.set_cons_succ]
              refine wpAnyH_take (i := 11) (v := ?_) (by rw [List.getElem?_toArray]; exact rfl) (by kernel_rfl) (by kernel_rfl) (by kernel_rfl) (by exact fun _ _ _ h => h) (Or.inl ⟨by rfl, (by intro W hSw; obtain ⟨o0, o1, o2, o3, o4, o5, o6, o7, o8, o9, o10, o11, o12⟩ := hSw; go_simp <;> with_reducible rfl)⟩) (by assumption) ?_
              try simp only [Act.put, List.setIfInBounds_toArray, List.set_cons_zero, List.set_cons_succ]
              have z0 := HQA.out.at_ 0 _ rfl
              have z1 := HQA.out.at_ 1 _ rfl
              have z2 := HQA.out.at_ 2 _ rfl
              have z3 := HQA.out.at_ 3 _ rfl
              have z4 := HQA.out.at_ 4 _ rfl
              have f0 := HQA.out.free 0
              have f1 := HQA.out.free 1
              have f2 := HQA.out.free 2
              have f3 := HQA.out.free 3
              have f4 := HQA.out.free 4
              refine wpAnyH_ready (rs := [13]) (by kernel_rfl) (by simp) (AllReadyH.cons (by rw [List.getElem?_toArray]; exact rfl) (fun K9 hK9 => ?_) AllReadyH.nil)
              go_simp
              obtain ⟨WE, hWE⟩ : ∃ W, w5.setCells qa 0 [.string nn.name, .slice b1 n1 d1, .slice b2 n2 d2, .slice b3 n3 d3, .bool nn.cordon] = W := ⟨_, rfl⟩
              have hWE2 : (((((w5.setCell ⟨qa, 0, none⟩ (.string nn.name)).setCell ⟨qa, 1, none⟩ (.slice b1 n1 d1)).setCell ⟨qa, 2, none⟩ (.slice b2 n2 d2)).setCell ⟨qa, 3, none⟩ (.slice b3 n3 d3)).setCell ⟨qa, 4, none⟩ (.bool nn.cordon)) = WE := hWE
              try rw [hWE2]
              have JE := Lib.hid (show Kept wr WE by rw [← hWE]; exact setCells_below qa _ _ _ _ _ HQB.out J0.out)
              clear hWE hWE2 z0 f0 z1 f1 z2 f2 z3 f3 z4 f4
              refine hK9.out _ _ (HF.out _ JE.out) (fun hHeldS => ?_)
              clear hK9 K9
              try simp only [Act.put, List.setIfInBounds_toArray, List.set_cons_zero, List.set_cons_succ]
              refine wpAnyH_take (i := 14) (v := ?_) (by rw [List.getElem?_toArray]; exact rfl) (by kernel_rfl) (by kernel_rfl) (by kernel_rfl) (by exact fun _ _ _ h => h) (Or.inl ⟨by rfl, (by intro W hSw; obtain ⟨o0, o1, o2, o3, o4, o5, o6, o7, o8, o9, o10, o11, o12⟩ := hSw; go_simp <;> with_reducible rfl)⟩) (by assumption) ?_
              try simp only [Act.put, List.setIfInBounds_toArray, List.set_cons_zero, List.set_cons_succ]
              refine wpAnyH_done (by kernel_rfl) ?_ _
              go_wp2
              go_meet
              case rel => exact ⟨rfl, JE.out⟩
          case rest =>
            obtain ⟨rfl, hkx⟩ := hcut
            have KX := Lib.hid (HK.out.trans hkx)
            clear hkx cq0 cq1 cq2 p0 p1 p2 p3 p4 p5 p6 p7 p8 p9 p10
            cases o with
            | none =>
              have HX := Lib.hid (st_places HOR.out (show chkPlaces nl pl = 3 by rw [← HS.out, HD.out, places_bad HNO.out (by rw [HFD.out]; rfl)]) (by decide))
              go_wp2
              go_ret
              exact ⟨ret_i64 HX.out.symm, HKZ.out.trans KX.out⟩
            | some nod =>
              have HX := Lib.hid (show chkPlaces nl (pl.drop (k + 1)) = chkPlaces nl pl by rw [← HS.out, HD.out, places_some (by rw [HFD.out]; rfl)])
              go_wp2
              go_roundw
              case rel => exact ⟨k + 1, by omega, by go_num, HX.out, KX.out⟩
              case measure => simp [intOf]; omega
    · have HPL := Lib.hid (show chkPlaces nl pl = 0 by rw [← hrest, List.drop_of_length_le (by rw [HL2.out]; omega)]; rfl)
      have hkk : ¬ (k : Int) < (m : Int) := by omega
      clear hrest hK
      go_wp2
      clear cq0 cq1 cq2
      go_loopw [7] (fun i wr => ∃ k : Nat, k ≤ len ∧ i = .int .i64 k ∧ chkRooms pl (nl.drop k) = chkRooms pl nl ∧ Kept Z wr) (fun i _ => len - (intOf i).toNat)
      case atStart => exact ⟨0, Nat.zero_le _, rfl, rfl, HK.out⟩
      case round =>
        obtain ⟨k, hk, rfl, hrest, hK⟩ := hrel
        have HS := Lib.hid hrest
        have HK := Lib.hid hK
        have cq0 := (HQ.out.kept hK).at_ 0 _ rfl
        have cq1 := (HQ.out.kept hK).at_ 1 _ rfl
        have cq2 := (HQ.out.kept hK).at_ 2 _ rfl
        by_cases hlt : k < len
        · obtain ⟨b9, off, rfl⟩ := HN.out.form.resolve_left (by omega)
          obtain ⟨n9, x1, y1, z1, x2, y2, z2, x3, y3, z3, hn, hd, hb, p0, p1, p2, p3, p4, hat⟩ := (HN.out.kept hK).at_ hlt
          have HD := Lib.hid hd
          have hkk : (k : Int) < (len : Int) := by omega
          have hk0 : ¬ (k : Int) < 0 := by omega
          obtain ⟨c, uu, hcu⟩ : ∃ c uu, useV n9.name pl [] = (c, uu) := ⟨_, _, rfl⟩
          have HCU := Lib.hid hcu
          have hus : usedSt ⟨nl, pl, bl⟩ n9.name = (c, uu) := (used_mem (s := ⟨nl, pl, bl⟩) (List.mem_of_getElem? hn)).trans hcu
          have HUU := Lib.hid (fun W (kk : Kept wr W) => rusedStR (HC0.out.kept (HK.out.trans kk)) n9.name)
          rw [hus] at HUU
          have HCAP := Lib.hid hat.cap
          have HF := Lib.hid (show ∀ W, Kept wr W → W.cell? ⟨w.heap.size, 0, none⟩ = some (.slice (some ⟨b9, off, none⟩) len cap) ∧ W.cell? ⟨w.heap.size, 1, none⟩ = some (.slice b m cp) ∧ W.cell? ⟨w.heap.size, 2, none⟩ = some (.slice d n cb) ∧ W.cell? ⟨b9, off + k * 5, none⟩ = some (.string n9.name) ∧ W.cell? ⟨b9, off + k * 5 + 1, none⟩ = some (.slice x1 y1 z1) ∧ W.cell? ⟨b9, off + k * 5 + 2, none⟩ = some (.slice x2 y2 z2) ∧ W.cell? ⟨b9, off + k * 5 + 3, none⟩ = some (.slice x3 y3 z3) ∧ W.cell? ⟨b9, off + k * 5 + 4, none⟩ = some (.bool n9.cordon) from fun W kk => ⟨cell_later kk cq0, cell_later kk cq1, cell_later kk cq2, cell_later kk p0, cell_later kk p1, cell_later kk p2, cell_later kk p3, cell_later kk p4⟩)
          clear hrest hK hat hn hd hcu hus
          go_upto_region 20 with fail
          refine wp_region_held_drew (S := fun W => W.cell? ⟨w.heap.size, 0, none⟩ = some (.slice (some ⟨b9, off, none⟩) len cap) ∧ W.cell? ⟨w.heap.size, 1, none⟩ = some (.slice b m cp) ∧ W.cell? ⟨w.heap.size, 2, none⟩ = some (.slice d n cb) ∧ W.cell? ⟨b9, off + k * 5, none⟩ = some (.string n9.name) ∧ W.cell? ⟨b9, off + k * 5 + 1, none⟩ = some (.slice x1 y1 z1) ∧ W.cell? ⟨b9, off + k * 5 + 2, none⟩ = some (.slice x2 y2 z2) ∧ W.cell? ⟨b9, off + k * 5 + 3, none⟩ = some (.slice x3 y3 z3) ∧ W.cell? ⟨b9, off + k * 5 + 4, none⟩ = some (.bool n9.cordon)) (by kernel_rfl) (HF.out _ (Kept.drew _)) (fun hHeld => ?_)
          refine wpAnyH_take (i := 0) (v := ?_) (by rw [List.getElem?_toArray]; exact rfl) (by kernel_rfl) (by kernel_rfl) (by kernel_rfl) (by exact fun _ _ _ h => h) (Or.inl ⟨by rfl, (by intro W hSw; obtain ⟨o0, o1, o2, o3, o4, o5, o6, o7⟩ := hSw; go_simp <;> with_reducible rfl)⟩) (by assumption) ?_
          try simp only [Act.put, List.setIfInBounds_toArray, List.set_cons_zero, List.set_cons_succ]
          refine wpAnyH_take (i := 1) (v := ?_) (by rw [List.getElem?_toArray]; exact rfl) (by kernel_rfl) (by kernel_rfl) (by kernel_rfl) (by exact fun _ _ _ h => h) (Or.inl ⟨by rfl, (by intro W hSw; obtain ⟨o0, o1, o2, o3, o4, o5, o6, o7⟩ := hSw; go_simp <;> with_reducible rfl)⟩) (by assumption) ?_
          try simp only [Act.put, List.setIfInBounds_toArray, List.set_cons_zero, List.set_cons_succ]
          refine wpAnyH_take (i := 2) (v := ?_) (by rw [List.getElem?_toArray]; exact rfl) (by kernel_rfl) (by kernel_rfl) (by kernel_rfl) (by exact fun _ _ _ h => h) (Or.inl ⟨by rfl, (by intro W hSw; obtain ⟨o0, o1, o2, o3, o4, o5, o6, o7⟩ := hSw; go_simp <;> with_reducible rfl)⟩) (by assumption) ?_
          try simp only [Act.put, List.setIfInBounds_toArray, List.set_cons_zero, List.set_cons_succ]
          refine wpAnyH_take (i := 3) (v := ?_) (by rw [List.getElem?_toArray]; exact rfl) (by kernel_rfl) (by kernel_rfl) (by kernel_rfl) (by exact fun _ _ _ h => h) (Or.inl ⟨by rfl, (by intro W hSw; obtain ⟨o0, o1, o2, o3, o4, o5, o6, o7⟩ := hSw; go_simp <;> with_reducible rfl)⟩) (by assumption) ?_
          try simp only [Act.put, List.setIfInBounds_toArray, List.set_cons_zero, List.set_cons_succ]
          refine wpAnyH_take (i := 4) (v := ?_) (by rw [List.getElem?_toArray]; exact rfl) (by kernel_rfl) (by kernel_rfl) (by kernel_rfl) (by exact fun _ _ _ h => h) (Or.inl ⟨by rfl, (by intro W hSw; obtain ⟨o0, o1, o2, o3, o4, o5, o6, o7⟩ := hSw; go_simp <;> with_reducible rfl)⟩) (by assumption) ?_
          try simp only [Act.put, List.setIfInBounds_toArray, List.set_cons_zero, List.set_cons_succ]
          refine wpAnyH_take (i := 5) (v := ?_) (by rw [List.getElem?_toArray]; exact rfl) (by kernel_rfl) (by kernel_rfl) (by kernel_rfl) (by exact fun _ _ _ h => h) (Or.inl ⟨by rfl, (by intro W hSw; obtain ⟨o0, o1, o2, o3, o4, o5, o6, o7⟩ := hSw; go_simp <;> with_reducible rfl)⟩) (by assumption) ?_
          try simp only [Act.put, List.setIfInBounds_toArray, List.set_cons_zero, List.set_cons_succ]
          refine wpAnyH_take (i := 6) (v := ?_) (by rw [List.getElem?_toArray]; exact rfl) (by kernel_rfl) (by kernel_rfl) (by kernel_rfl) (by exact fun _ _ _ h => h) (Or.inl ⟨by rfl, (by intro W hSw; obtain ⟨o0, o1, o2, o3, o4, o5, o6, o7⟩ := hSw; go_simp <;> with_reducible rfl)⟩) (by assumption) ?_
          try simp only [Act.put, List.setIfInBounds_toArray, List.set_cons_zero, List.set_cons_succ]
          refine wpAnyH_ready (rs := [7]) (by kernel_rfl) (by simp) (AllReadyH.cons (by rw [List.getElem?_toArray]; exact rfl) (fun K9 hK9 => ?_) AllReadyH.nil)
          go_simp
          refine (HUU.out _ (Kept.drew _)).mono ?_
          rintro e w6 ⟨y9, rfl, hy, kk⟩
          have J := Lib.hid ((Kept.drew wr).trans kk)
          have HY := Lib.hid hy
          clear hy kk
          refine hK9.out _ _ (HF.out _ J.out) (fun hHeld1 => ?_)
          clear hK9 K9
          try simp only [Act.put, List.setIfInBounds_toArray, List.set_cons_zero, List.set_cons_succ]
          refine wpAnyH_take (i := 8) (v := ?_) (by rw [List.getElem?_toArray]; exact rfl) (by kernel_rfl) (by kernel_rfl) (by kernel_rfl) (by exact fun _ _ _ h => h) (Or.inl ⟨by rfl, (by intro W hSw; obtain ⟨o0, o1, o2, o3, o4, o5, o6, o7⟩ := hSw; go_simp <;> with_reducible rfl)⟩) (by assumption) ?_
          try simp only [Act.put, List.setIfInBounds_toArray, List.set_cons_zero, List.set_cons_succ]
          refine wpAnyH_take (i := 9) (v := ?_) (by rw [List.getElem?_toArray]; exact rfl) (by kernel_rfl) (by kernel_rfl) (by kernel_rfl) (by exact fun _ _ _ h => h) (Or.inl ⟨by rfl, (by intro W hSw; obtain ⟨o0, o1, o2, o3, o4, o5, o6, o7⟩ := hSw; go_simp <;> with_reducible rfl)⟩) (by assumption) ?_
          try simp only [Act.put, List.setIfInBounds_toArray, List.set_cons_zero, List.set_cons_succ]
          refine wpAnyH_take (i := 10) (v := ?_) (by rw [List.getElem?_toArray]; exact rfl) (by kernel_rfl) (by kernel_rfl) (by kernel_rfl) (by exact fun _ _ _ h => h) (Or.inl ⟨by rfl, (by intro W hSw; obtain ⟨o0, o1, o2, o3, o4, o5, o6, o7⟩ := hSw; go_simp <;> with_reducible rfl)⟩) (by assumption) ?_
          try simp only [Act.put, List.setIfInBounds_toArray, List.set_cons_zero, List.set_cons_succ]
          refine wpAnyH_take (i := 11) (v := ?_) (by rw [List.getElem?_toArray]; exact rfl) (by kernel_rfl) (by kernel_rfl) (by kernel_rfl) (by exact fun _ _ _ h => h) (Or.inl ⟨by rfl, (by intro W hSw; obtain ⟨o0, o1, o2, o3, o4, o5, o6, o7⟩ := hSw; go_simp <;> with_reducible rfl)⟩) (by assumption) ?_
          try simp only [Act.put, List.setIfInBounds_toArray, List.set_cons_zero, List.set_cons_succ]
          refine wpAnyH_take (i := 12) (v := ?_) (by rw [List.getElem?_toArray]; exact rfl) (by kernel_rfl) (by kernel_rfl) (by kernel_rfl) (by exact fun _ _ _ h => h) (Or.inl ⟨by rfl, (by intro W hSw; obtain ⟨o0, o1, o2, o3, o4, o5, o6, o7⟩ := hSw; go_simp <;> with_reducible rfl)⟩) (by assumption) ?_
          try simp only [Act.put, List.setIfInBounds_toArray, List.set_cons_zero, List.set_cons_succ]
          refine wpAnyH_done (by kernel_rfl) ?_ _
          clear cq0 cq1 cq2 p0 p1 p2 p3 p4
          obtain ⟨cq0, cq1, cq2, p0, p1, p2, p3, p4⟩ := HF.out _ J.out
          by_cases hc : ¬ c = 0
          · have HX := Lib.hid (st_rooms (bl := bl) HOR.out HPL.out (show chkRooms pl nl = c by rw [← HS.out, HD.out, rooms_bad HCU.out hc]) hc)
            have hcn : (c != 0) = true := by simpa using hc
            clear hc
            go_wp2
            go_ret
            exact ⟨ret_i64 HX.out.symm, HKZ.out.trans (HK.out.trans J.out)⟩
          obtain rfl : c = 0 := Decidable.of_not_not hc
          clear hc
          obtain ⟨t, ht⟩ : ∃ t, Vec.fitsFrom n9.cap uu = t := ⟨_, rfl⟩
          have HT := Lib.hid ht
          have HFT := Lib.hid (rfitsQ HY.out (HCAP.out.kept J.out) ht)
          clear ht
          go_wp2_with fail
          refine HFT.out.mono ?_
          rintro e w7 ⟨rfl, kk⟩
          have KW := Lib.hid (HK.out.trans (J.out.trans kk))
          clear kk cq0 cq1 cq2 p0 p1 p2 p3 p4
          cases t with
          | false =>
            have HX := Lib.hid (st_rooms (bl := bl) HOR.out HPL.out (show chkRooms pl nl = 7 by rw [← HS.out, HD.out, rooms_full HCU.out HT.out]) (by decide))
            go_wp2
            go_ret
            exact ⟨ret_i64 HX.out.symm, HKZ.out.trans KW.out⟩
          | true =>
            have HX := Lib.hid (show chkRooms pl (nl.drop (k + 1)) = chkRooms pl nl by rw [← HS.out, HD.out, rooms_next HCU.out HT.out])
            go_wp2
            go_roundw
            case rel => exact ⟨k + 1, by omega, by go_num, HX.out, KW.out⟩
            case measure => simp [intOf]; omega
        · have HRO := Lib.hid (show chkRooms pl nl = 0 by rw [← hrest, List.drop_of_length_le (by rw [HL1.out]; omega)]; rfl)
          have hkk : ¬ (k : Int) < (len : Int) := by omega
          clear hrest hK
          have HX := Lib.hid (st_total (bl := bl) HOR.out HPL.out HRO.out)
          go_wp2_with fail
          refine (rtotalStR (HC0.out.kept HK.out)).mono ?_
          rintro e w8 ⟨y9, rfl, hy, kk⟩
          have KW := Lib.hid (HK.out.trans kk)
          clear hy kk cq0 cq1 cq2
          go_wp2
          go_ret
          exact ⟨ret_i64 HX.out.symm, HKZ.out.trans KW.out⟩

end Go.Proofs.YtapnffejnhkoaaaGreat

/- Clusters: whether one is small and may be. -/
namespace Go.Proofs.YtapnffejnhkoaaaGreat
open Go.RowKit
set_option linter.unusedVariables false

def goodSt (s : Clu) : Bool := fewSt s && decide (chkSt s = 0)
theorem few_lowS {s : Clu} (h : fewSt s = true) : LowClu s ∧ s.nodes.length ≤ 34 ∧ s.pods.length ≤ 130 ∧ s.buds.length ≤ 20 := by
  unfold fewSt fewBs at h
  simp only [Bool.and_eq_true, decide_eq_true_eq, List.all_eq_true] at h
  obtain ⟨h1, h2, ⟨h3, h4⟩, h5, h6⟩ := h
  refine ⟨⟨fun n hn => few_low (h5 n hn), fun p hp => few_lowP (h6 p hp), fun n hn => ?_, by omega, by omega, by omega⟩, by omega, by omega, by omega⟩
  have := h4 n hn
  unfold fewBd fewL at this
  simp only [Bool.and_eq_true, decide_eq_true_eq] at this
  omega
theorem good_few {s : Clu} (h : goodSt s = true) : fewSt s = true := by unfold goodSt at h; exact (Bool.and_eq_true_iff.1 h).1
theorem good_chk {s : Clu} (h : goodSt s = true) : chkSt s = 0 := by unfold goodSt at h; exact of_decide_eq_true (Bool.and_eq_true_iff.1 h).2
set_option maxRecDepth 100000 in
set_option maxHeartbeats 3200000 in
theorem goodStR {v : Value} {s : Clu} {c : Bool} {w : World} (h : CluR w v s) (hc : goodSt s = c) : Calls Tryz.prog 5 #[v] w (Say (.bool c) w) := by
  subst hc
  have h0 := h
  obtain ⟨v1, v2, v3, rfl, ⟨a, cap, rfl, -, -, -⟩, ⟨b, cp, rfl, -, -, -⟩, ⟨d, cb, rfl, -, -, -⟩⟩ := h0
  obtain ⟨len, hl1⟩ : ∃ q, s.nodes.length = q := ⟨_, rfl⟩
  obtain ⟨m, hl2⟩ : ∃ q, s.pods.length = q := ⟨_, rfl⟩
  obtain ⟨n, hl3⟩ : ∃ q, s.buds.length = q := ⟨_, rfl⟩
  rw [hl1, hl2, hl3] at h ⊢
  clear hl1 hl2 hl3
  obtain ⟨Z, hZ⟩ : ∃ Z, w.alloc (.cells #[.slice a len cap, .slice b m cp, .slice d n cb] 26) = Z := ⟨_, rfl⟩
  have hkz : Kept w Z := by rw [← hZ]; exact kept_alloc _ _
  have HC := Lib.hid (show CellsN w.heap.size [.slice a len cap, .slice b m cp, .slice d n cb] Z from freshN w (.slice a len cap) [.slice b m cp, .slice d n cb] 26 Z (by rw [hZ]; exact Kept.refl _))
  have HV := Lib.hid (h.kept hkz)
  have HKZ := Lib.hid hkz
  obtain ⟨e1, he1⟩ : ∃ e, fewSt s = e := ⟨_, rfl⟩
  have HE1 := Lib.hid he1
  have HG := Lib.hid (show goodSt s = (e1 && decide (chkSt s = 0)) by unfold goodSt; rw [he1])
  rw [HG.out]
  clear h hkz
  have cq0 := (HC.out.kept (Kept.refl _)).at_ 0 _ rfl
  have cq1 := (HC.out.kept (Kept.refl _)).at_ 1 _ rfl
  have cq2 := (HC.out.kept (Kept.refl _)).at_ 2 _ rfl
  go_enter Tryz.func5, Tryz.ntmps5
  go_wp2_with fail
  try rw [hZ]
  clear hZ
  refine (fewStR HV.out he1).mono ?_
  rintro e w1 ⟨rfl, kk⟩
  have K := Lib.hid kk
  clear kk he1 cq0 cq1 cq2
  have cq0 := (HC.out.kept K.out).at_ 0 _ rfl
  have cq1 := (HC.out.kept K.out).at_ 1 _ rfl
  have cq2 := (HC.out.kept K.out).at_ 2 _ rfl
  cases e1 with
  | false =>
    go_wp2
    go_ret
    exact ⟨rfl, HKZ.out.trans K.out⟩
  | true =>
    obtain ⟨L1, L2, L3, L4⟩ := few_lowS HE1.out
    have HL := Lib.hid L1
    clear L1
    go_wp2_with fail
    refine (ofStR (HV.out.kept K.out) HL.out (by omega) (by omega) (by omega)).mono ?_
    rintro e w2 ⟨x9, rfl, hx, kk⟩
    have K2 := Lib.hid (K.out.trans kk)
    have HX := Lib.hid hx
    clear hx kk cq0 cq1 cq2
    go_wp2_with fail
    obtain ⟨c, hc⟩ : ∃ c, chkSt s = c := ⟨_, rfl⟩
    refine (rcheckStR HX.out hc).mono ?_
    rintro e w3 ⟨rfl, kk⟩
    have K3 := Lib.hid (K2.out.trans kk)
    have HCC := Lib.hid hc
    clear kk
    rw [hc]
    clear hc
    obtain ⟨t, ht⟩ : ∃ t, decide (c = 0) = t := ⟨_, rfl⟩
    have ht' : (c == 0) = t := ht
    go_wp2
    go_ret
    exact ⟨by rw [HCC.out, ht]; rfl, HKZ.out.trans K3.out⟩

end Go.Proofs.YtapnffejnhkoaaaGreat

/- Clusters in order: what is put, dropped, put again. -/
namespace Go.Proofs.YtapnffejnhkoaaaGreat
open Go.RowKit
set_option linter.unusedVariables false

def Asc (l : List Pd) : Prop := l.Pairwise fun x y => ltS x.name y.name = true
theorem asc_from : ∀ {prev : Option ByteArray} {l : List Pd}, chkFromP prev l = 0 → (∀ q, prev = some q → ∀ x ∈ l, ltS q x.name = true) ∧ Asc l
  | _, [], _ => ⟨fun q _ x h => absurd h (by simp), .nil⟩
  | prev, n :: t, h => by
    by_cases z : chkPod n = 0
    · by_cases y : Vec.behindB prev n.name = true
      · rw [chkP_order z y] at h; cases h
      · have y : Vec.behindB prev n.name = false := by simpa using y
        rw [chkP_next z y] at h
        obtain ⟨h2, h3⟩ := asc_from h
        refine ⟨fun q hq x hx => ?_, List.pairwise_cons.2 ⟨fun x hx => h2 _ rfl x hx, h3⟩⟩
        subst hq
        have hlt : ltS q n.name = true := Vec.leS_false y
        rcases List.mem_cons.1 hx with rfl | hx
        · exact hlt
        · exact Vec.lt_trans' hlt (h2 _ rfl x hx)
    · rw [chkP_bad z] at h; exact absurd h z
theorem good_asc {s : Clu} (h : goodSt s = true) : Asc s.pods := by
  have hc := good_chk h
  have h0 : or3 (chkAllN s.nodes) (chkAllP s.pods) (chkAllBd s.buds) = 0 := Decidable.byContradiction fun g => g ((st_or (nl := s.nodes) (pl := s.pods) (bl := s.buds) rfl g).symm.trans hc)
  have ho : chkAllP s.pods = 0 := by
    unfold or3 at h0
    split at h0
    · rename_i h1; exact absurd h0 h1
    · split at h0
      · exact h0
      · rename_i h1; exact Decidable.of_not_not h1
  unfold chkAllP at ho
  split at ho
  · cases ho
  · exact (asc_from ho).2
theorem find_asc : ∀ {l : List Pd} {p : Pd}, Asc l → p ∈ l → findP l p.name = some p
  | [], _, _, h => by cases h
  | x :: t, p, h, hp => by
    unfold findP
    rcases List.mem_cons.1 hp with hp | hp
    · subst hp
      exact List.find?_cons_of_pos (p := fun n : Pd => eqS n.name p.name) (eqS_self _)
    · have hlt := (List.pairwise_cons.1 h).1 p hp
      exact (List.find?_cons_of_neg (p := fun n : Pd => eqS n.name p.name) (fun e => Vec.lt_ne hlt (eqS_iff.1 e))).trans (find_asc (List.pairwise_cons.1 h).2 hp)
theorem drop_mem {x : ByteArray} : ∀ {l : List Pd} {q : Pd}, q ∈ dropP x l → q ∈ l
  | p :: t, q, h => by
    rw [dropP] at h
    split at h
    · exact List.mem_cons_of_mem _ h
    · rcases List.mem_cons.1 h with rfl | h
      · exact List.mem_cons_self ..
      · exact List.mem_cons_of_mem _ (drop_mem h)
theorem drop_count {x : ByteArray} : ∀ {l : List Pd}, (dropP x l).length + (if (findP l x).isSome = true then 1 else 0) = l.length
  | [] => rfl
  | p :: t => by
    by_cases e : eqS p.name x = true
    · have hf : findP (p :: t) x = some p := by unfold findP; exact List.find?_cons_of_pos (p := fun n : Pd => eqS n.name x) e
      rw [dropP, if_pos e, hf]; simp
    · have hf : findP (p :: t) x = findP t x := by unfold findP; exact List.find?_cons_of_neg (p := fun n : Pd => eqS n.name x) e
      rw [dropP, if_neg e, hf]
      have := drop_count (x := x) (l := t)
      simp only [List.length_cons]
      omega
theorem drop_len' (s : Clu) (x : ByteArray) : (dropSt s x).pods.length + (if (findP s.pods x).isSome = true then 1 else 0) = s.pods.length := drop_count
end Go.Proofs.YtapnffejnhkoaaaGreat

/- Clusters: Put, Drop, Move, a pod by its name: of all that reads so. -/
namespace Go.Proofs.YtapnffejnhkoaaaGreat
open Go.RowKit
set_option linter.unusedVariables false

def TellsS (s : Clu) (w : World) (e : Ending) (w' : World) : Prop := ∃ y, e = .returned y ∧ CluR w' y s ∧ Kept w w'
theorem dropStR {v : Value} {s : Clu} {w : World} (h : CluR w v s) (x : ByteArray) (hl : LowClu s) : Calls Tryz.prog 10 #[v, .string x] w (TellsS (dropSt s x) w) := by
  obtain ⟨v1, v2, v3, rfl, ⟨a, cap, rfl, l1, m1, h1⟩, ⟨b, cp, rfl, l2, m2, h2⟩, ⟨d, cb, rfl, l3, m3, h3⟩⟩ := h
  refine (dropSt_any a b d _ cap _ cp _ cb s.nodes s.pods s.buds x w h1 h2 h3 l1 m1 l2 m2 l3 m3 hl).mono ?_
  rintro e w' ⟨_, _, _, _, _, _, _, _, _, rfl, ho, kk⟩
  exact ⟨_, rfl, ho.toR, kk⟩
theorem pods_ofR {a : Option Addr} {n c : Nat} {l : List Pd} {w : World} (h : PodsR w (.slice a n c) l) : PodsAt w a n l := by
  obtain ⟨a', cap', e, _, _, h⟩ := h
  cases e
  exact h
theorem drop_low {s : Clu} (h : LowClu s) (x : ByteArray) : LowClu (dropSt s x) :=
  ⟨h.nodes, fun q hq => h.pods q (drop_mem hq), h.buds, h.nodesN, by
    have h2 := drop_len' s x
    have := h.podsN
    omega, h.budsN⟩

end Go.Proofs.YtapnffejnhkoaaaGreat
