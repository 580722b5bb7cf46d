/- Package by package: contracts of the functions that the laws call. -/
import Derived.Test.YtapnffejnhkoaaaGreatStA
import Derived.Test.YtapnffejnhkoaaaGreatBudR
import Derived.Test.YtapnffejnhkoaaaGreatNodFew
import Derived.Test.YtapnffejnhkoaaaGreatPodFew
import Derived.Test.YtapnffejnhkoaaaGreatNodOfAll
import Derived.Test.YtapnffejnhkoaaaGreatPodOfAll
import Derived.Deep.RegionHeld3
import Derived.Test.YtapnffejnhkoaaaGreatStE
import Derived.Test.YtapnffejnhkoaaaGreatNodRefParse

/- Clusters: whether one is small; one as the reference's. -/
namespace Go.Proofs.YtapnffejnhkoaaaGreat
open Go.RowKit
set_option linter.unusedVariables false

def fewSt (s : Clu) : Bool := decide (s.nodes.length ≤ 34) && (decide (s.pods.length ≤ 130) && (fewBs s.buds && (s.nodes.all fewNod && s.pods.all fewPd)))
theorem nodes_at {a : Option Addr} {len cap : Nat} {l : List Nod} {w : World} (h1 : len ≤ cap) (h2 : cap ≤ maxLen) (h : NodesAt w a len l) : NodesR w (.slice a len cap) l := ⟨a, cap, by rw [h.1], by rw [h.1]; exact h1, h2, by rw [h.1]; exact h⟩
theorem pods_at {a : Option Addr} {len cap : Nat} {l : List Pd} {w : World} (h1 : len ≤ cap) (h2 : cap ≤ maxLen) (h : PodsAt w a len l) : PodsR w (.slice a len cap) l := ⟨a, cap, by rw [h.1], by rw [h.1]; exact h1, h2, by rw [h.1]; exact h⟩
theorem buds_at {a : Option Addr} {len cap : Nat} {l : List Bd} {w : World} (h1 : len ≤ cap) (h2 : cap ≤ maxLen) (h : BudsAt w a len l) : BudsR w (.slice a len cap) l := ⟨a, cap, by rw [h.1], by rw [h.1]; exact h1, h2, by rw [h.1]; exact h⟩
theorem all_hit {α : Type} {f : α → Bool} {l : List α} {k : Nat} {x : α} (hd : l.drop k = x :: l.drop (k + 1)) (h : f x = true) (hr : (l.drop k).all f = l.all f) : (l.drop (k + 1)).all f = l.all f := by
  rw [← hr, hd, List.all_cons, h, Bool.true_and]
theorem all_miss {α : Type} {f : α → Bool} {l : List α} {k : Nat} {x : α} (hd : l.drop k = x :: l.drop (k + 1)) (h : f x = false) (hr : (l.drop k).all f = l.all f) : l.all f = false := by
  rw [← hr, hd, List.all_cons, h, Bool.false_and]
theorem all_end {α : Type} {f : α → Bool} {l : List α} {k : Nat} (h : l.length ≤ k) (hr : (l.drop k).all f = l.all f) : l.all f = true := by
  rw [← hr, List.drop_of_length_le h]; rfl
set_option maxRecDepth 100000 in
set_option maxHeartbeats 3200000 in
theorem fewStR {v : Value} {s : Clu} {c : Bool} {w : World} (h : CluR w v s) (hc : fewSt s = c) : Calls Tryz.prog 21 #[v] w (Say (.bool c) w) := by
  subst hc
  obtain ⟨v1, v2, v3, rfl, ⟨a, cap, rfl, l1, m1, h1⟩, ⟨b, cp, rfl, l2, m2, h2⟩, ⟨d, cb, rfl, l3, m3, h3⟩⟩ := h
  obtain ⟨nl, pl, bl⟩ := s
  dsimp only at *
  obtain ⟨len, hlen⟩ : ∃ q, nl.length = q := ⟨_, rfl⟩
  obtain ⟨m, hm⟩ : ∃ q, pl.length = q := ⟨_, rfl⟩
  obtain ⟨n, hn⟩ : ∃ q, bl.length = q := ⟨_, rfl⟩
  rw [hlen] at h1 l1
  rw [hm] at h2 l2
  rw [hn] at h3 l3
  try rw [hlen]
  try rw [hm]
  try rw [hn]
  skip
  obtain ⟨Z, hZ⟩ : ∃ Z, w.alloc (.cells #[.slice a len cap, .slice b m cp, .slice d n cb] 26) = Z := ⟨_, rfl⟩
  have hkz : Kept w Z := by rw [← hZ]; exact kept_alloc _ _
  have HQ := Lib.hid (show CellsN w.heap.size [.slice a len cap, .slice b m cp, .slice d n cb] Z from freshN w (.slice a len cap) [.slice b m cp, .slice d n cb] 26 Z (by rw [hZ]; exact Kept.refl _))
  obtain ⟨e3, he3⟩ : ∃ e, fewBs bl = e := ⟨_, rfl⟩
  have HB := Lib.hid (fewBsR (buds_at l3 m3 (h3.kept hkz)) he3)
  have HV := Lib.hid (show fewSt ⟨nl, pl, bl⟩ = (decide (len ≤ 34) && (decide (m ≤ 130) && (e3 && (nl.all fewNod && pl.all fewPd)))) by unfold fewSt; dsimp only; rw [hlen, hm, he3])
  have HN := Lib.hid (h1.kept hkz)
  have HP := Lib.hid (h2.kept hkz)
  have HKZ := Lib.hid hkz
  have HM1 := Lib.hid (Nat.le_trans l1 m1)
  have HM2 := Lib.hid (Nat.le_trans l2 m2)
  have HL1 := Lib.hid hlen
  have HL2 := Lib.hid hm
  have hml1 := Nat.le_trans l1 m1
  have hml2 := Nat.le_trans l2 m2
  unfold maxLen at hml1 hml2
  clear h1 h2 h3 l1 l2 l3 m1 m2 m3 he3 hkz
  have cq0 := HQ.out.at_ 0 _ rfl
  have cq1 := HQ.out.at_ 1 _ rfl
  have cq2 := HQ.out.at_ 2 _ rfl
  by_cases hA : 34 < len
  · have HX := Lib.hid (HV.out.trans (by rw [decide_eq_false (show ¬ len ≤ 34 by omega), Bool.false_and]))
    have hA' : (34 : Int) < (len : Int) := by omega
    rw [HX.out]
    go_enter Tryz.func21, Tryz.ntmps21
    go_wp2
    try rw [hZ]
    go_ret
    exact ⟨rfl, HKZ.out⟩
  by_cases hB : 130 < m
  · have HX := Lib.hid (HV.out.trans (by rw [decide_eq_true (show len ≤ 34 by omega), decide_eq_false (show ¬ m ≤ 130 by omega), Bool.false_and, Bool.and_false]))
    have hA' : ¬ (34 : Int) < (len : Int) := by omega
    have hB' : (130 : Int) < (m : Int) := by omega
    rw [HX.out]
    go_enter Tryz.func21, Tryz.ntmps21
    go_wp2
    try rw [hZ]
    go_ret
    exact ⟨rfl, HKZ.out⟩
  have hA' : ¬ (34 : Int) < (len : Int) := by omega
  have hB' : ¬ (130 : Int) < (m : Int) := by omega
  have HX := Lib.hid (HV.out.trans (by rw [decide_eq_true (show len ≤ 34 by omega), decide_eq_true (show m ≤ 130 by omega), Bool.true_and, Bool.true_and]))
  rw [HX.out]
  clear HV HX
  go_enter Tryz.func21, Tryz.ntmps21
  go_wp2_with fail
  try rw [hZ]
  clear hZ
  refine HB.out.mono ?_
  rintro e w1 ⟨rfl, kk⟩
  have KW := Lib.hid kk
  clear kk cq0 cq1 cq2 HB
  cases e3 with
  | false =>
    go_wp2
    go_ret
    exact ⟨rfl, HKZ.out.trans KW.out⟩
  | true =>
    have cq0 := (HQ.out.kept KW.out).at_ 0 _ rfl
    have cq1 := (HQ.out.kept KW.out).at_ 1 _ rfl
    have cq2 := (HQ.out.kept KW.out).at_ 2 _ rfl
    go_wp2
    go_loopw [3] (fun i wr => ∃ k : Nat, k ≤ len ∧ i = .int .i64 k ∧ (nl.drop k).all fewNod = nl.all fewNod ∧ Kept Z wr) (fun i _ => len - (intOf i).toNat)
    case atStart => exact ⟨0, Nat.zero_le _, rfl, rfl, KW.out⟩
    case round =>
      clear cq0 cq1 cq2
      obtain ⟨k, hk, rfl, hrest, hK⟩ := hrel
      have HS := Lib.hid hrest
      have KN := Lib.hid hK
      have cq0 := (HQ.out.kept hK).at_ 0 _ rfl
      have cq1 := (HQ.out.kept hK).at_ 1 _ rfl
      have cq2 := (HQ.out.kept hK).at_ 2 _ rfl
      by_cases hlt : k < len
      · obtain ⟨b9, off, rfl⟩ := HN.out.form.resolve_left (by omega)
        obtain ⟨n9, x1, y1, z1, x2, y2, z2, x3, y3, z3, hn, hd, hb, p0, p1, p2, p3, p4, hat⟩ := (HN.out.kept hK).at_ hlt
        have HD := Lib.hid hd
        obtain ⟨t, ht⟩ : ∃ t, fewNod n9 = t := ⟨_, rfl⟩
        have HT := Lib.hid ht
        have HC := Lib.hid (show Calls Tryz.prog 49 #[NodV n9 (.slice x1 y1 z1) (.slice x2 y2 z2) (.slice x3 y3 z3)] wr (Say (.bool t) wr) from fewNodR ⟨_, _, _, rfl, hat⟩ ht)
        unfold NodV at HC
        have hkk : (k : Int) < (len : Int) := by omega
        clear hrest hK hat hn hd ht
        cases t with
        | false =>
          have HF := Lib.hid (all_miss HD.out HT.out HS.out)
          go_wp2_with fail
          refine HC.out.mono ?_
          rintro e w9 ⟨rfl, kk⟩
          have KW := Lib.hid (KN.out.trans kk)
          clear kk
          go_wp2
          go_ret
          exact ⟨by rw [HF.out]; simp, HKZ.out.trans KW.out⟩
        | true =>
          have HF := Lib.hid (all_hit HD.out HT.out HS.out)
          go_wp2_with fail
          refine HC.out.mono ?_
          rintro e w9 ⟨rfl, kk⟩
          have KW := Lib.hid (KN.out.trans kk)
          clear kk cq0 cq1 cq2
          go_wp2
          go_roundw
          case rel => exact ⟨k + 1, by omega, by go_num, HF.out, KW.out⟩
          case measure => simp [intOf]; omega
      · have HL1F := Lib.hid (all_end (by rw [HL1.out]; omega) hrest)
        have hkk : ¬ (k : Int) < (len : Int) := by omega
        clear hrest hK
        clear cq0 cq1 cq2
        have cq0 := (HQ.out.kept KN.out).at_ 0 _ rfl
        have cq1 := (HQ.out.kept KN.out).at_ 1 _ rfl
        have cq2 := (HQ.out.kept KN.out).at_ 2 _ rfl
        go_wp2
        go_loopw [4] (fun i wr => ∃ k : Nat, k ≤ m ∧ i = .int .i64 k ∧ (pl.drop k).all fewPd = pl.all fewPd ∧ Kept Z wr) (fun i _ => m - (intOf i).toNat)
        case atStart => exact ⟨0, Nat.zero_le _, rfl, rfl, KN.out⟩
        case round =>
          clear cq0 cq1 cq2
          obtain ⟨k, hk, rfl, hrest, hK⟩ := hrel
          have HS := Lib.hid hrest
          have KP := Lib.hid hK
          have cq0 := (HQ.out.kept hK).at_ 0 _ rfl
          have cq1 := (HQ.out.kept hK).at_ 1 _ rfl
          have cq2 := (HQ.out.kept hK).at_ 2 _ rfl
          by_cases hlt : k < m
          · obtain ⟨b9, off, rfl⟩ := HP.out.form.resolve_left (by omega)
            obtain ⟨n9, x1, y1, z1, x2, y2, z2, x3, y3, z3, x4, y4, z4, hn, hd, hb, p0, p1, p2, p3, p4, p5, p6, p7, p8, p9, p10, hat⟩ := (HP.out.kept hK).at_ hlt
            have HD := Lib.hid hd
            obtain ⟨t, ht⟩ : ∃ t, fewPd n9 = t := ⟨_, rfl⟩
            have HT := Lib.hid ht
            have HC := Lib.hid (show Calls Tryz.prog 50 #[PodV n9 (.slice x1 y1 z1) (.slice x2 y2 z2) (.slice x3 y3 z3) (.slice x4 y4 z4)] wr (Say (.bool t) wr) from fewPdR ⟨_, _, _, _, rfl, hat⟩ ht)
            unfold PodV at HC
            have hkk : (k : Int) < (m : Int) := by omega
            clear hrest hK hat hn hd ht
            cases t with
            | false =>
              have HF := Lib.hid (all_miss HD.out HT.out HS.out)
              go_wp2_with fail
              refine HC.out.mono ?_
              rintro e w9 ⟨rfl, kk⟩
              have KW := Lib.hid (KP.out.trans kk)
              clear kk
              go_wp2
              go_ret
              exact ⟨by rw [HF.out]; simp, HKZ.out.trans KW.out⟩
            | true =>
              have HF := Lib.hid (all_hit HD.out HT.out HS.out)
              go_wp2_with fail
              refine HC.out.mono ?_
              rintro e w9 ⟨rfl, kk⟩
              have KW := Lib.hid (KP.out.trans kk)
              clear kk cq0 cq1 cq2
              go_wp2
              go_roundw
              case rel => exact ⟨k + 1, by omega, by go_num, HF.out, KW.out⟩
              case measure => simp [intOf]; omega
          · have HL2F := Lib.hid (all_end (by rw [HL2.out]; omega) hrest)
            have hkk : ¬ (k : Int) < (m : Int) := by omega
            clear hrest hK
            go_wp2
            go_ret
            exact ⟨by rw [HL1F.out, HL2F.out]; rfl, HKZ.out.trans KP.out⟩
end Go.Proofs.YtapnffejnhkoaaaGreat

/- Clusters: a block that holds nothing but slices is written: no row of a cluster lies in it. -/
namespace Go.Proofs.YtapnffejnhkoaaaGreat
open Go.RowKit
set_option linter.unusedVariables false

def AllSl (W : World) (q : Nat) : Prop := ∀ i u, W.cell? ⟨q, i, none⟩ = some u → ∃ a n c, u = .slice a n c
theorem all_sl {W : World} {q : Nat} {a1 a2 a3 : Option Addr} {m1 c1 m2 c2 m3 c3 : Nat} {T : TypeId} {fr : Nat × Nat} (hh : W.heap[q]? = some (.cells #[.slice a1 m1 c1, .slice a2 m2 c2, .slice a3 m3 c3] T fr)) : AllSl W q := by
  intro i u h
  rw [Lib.cell_of_heap hh] at h
  match i, h with
  | 0, h => cases h; exact ⟨_, _, _, rfl⟩
  | 1, h => cases h; exact ⟨_, _, _, rfl⟩
  | 2, h => cases h; exact ⟨_, _, _, rfl⟩
  | i + 3, h => simp at h
theorem AllSl.noRow {W : World} {q : Nat} (h : AllSl W q) : NoRow W q := fun o x u h1 _ => by
  obtain ⟨_, _, _, e⟩ := h _ _ h1
  cases e
theorem row_past {α : Type} {L : Lay α} {w w' : World} {a : Option Addr} {len : Nat} {l : List α} {N : Nat} (hL : ∀ x, ∃ u, (L.cs x)[0]? = some u ∧ ∀ a n c, u ≠ .slice a n c) (h : RowAt L w a len l) (hs : w'.heap.size = w.heap.size) (hb : ∀ b, b ≠ N → w'.heap[b]? = w.heap[b]?) (hn : AllSl w N) : RowAt L w' a len l := by
  obtain ⟨h3, h4, h5, h6⟩ := h
  refine ⟨h3, h4, h5, ?_⟩
  rcases h6 with h6 | ⟨b, off, rfl, hlt, hc⟩
  · exact .inl h6
  · cases l with
    | nil => exact .inl h3.symm
    | cons x t =>
      have hne : b ≠ N := by
        rintro rfl
        obtain ⟨u, g0, g1⟩ := hL x
        obtain ⟨_, _, _, e⟩ := hn _ _ (hc 0 x 0 _ rfl g0)
        exact g1 _ _ _ e
      exact .inr ⟨b, off, rfl, by rw [hs]; exact hlt, fun i x j u hi hj => (World.cell?_of_block (a := ⟨b, off + i * L.m + j, none⟩) (hb b hne)).trans (hc i x j u hi hj)⟩
theorem reads_pastS {α : Type} {L : Lay α} {w w' : World} {v : Value} {l : List α} {N : Nat} (hL : ∀ x, ∃ u, (L.cs x)[0]? = some u ∧ ∀ a n c, u ≠ .slice a n c) (h : Reads L w v l) (hs : w'.heap.size = w.heap.size) (hb : ∀ b, b ≠ N → w'.heap[b]? = w.heap[b]?) (hn : AllSl w N) : Reads L w' v l := by
  obtain ⟨a, cap, rfl, h1, h2, h3⟩ := h
  exact ⟨a, cap, rfl, h1, h2, row_past hL h3 hs hb hn⟩
theorem fst_P (x : ByteArray × ByteArray) : ∃ u, (PairLay.cs x)[0]? = some u ∧ ∀ a n c, u ≠ .slice a n c := ⟨_, rfl, fun _ _ _ e => by cases e⟩
theorem fst_A (x : NT) : ∃ u, (TaLay.cs x)[0]? = some u ∧ ∀ a n c, u ≠ .slice a n c := ⟨_, rfl, fun _ _ _ e => by cases e⟩
theorem fst_T (x : Int × ByteArray × ByteArray) : ∃ u, (TermLay.cs x)[0]? = some u ∧ ∀ a n c, u ≠ .slice a n c := ⟨_, rfl, fun _ _ _ e => by cases e⟩
theorem fst_N (x : NX) : ∃ u, (NodLay0.cs x)[0]? = some u ∧ ∀ a n c, u ≠ .slice a n c := ⟨_, rfl, fun _ _ _ e => by cases e⟩
theorem fst_Pd (x : PX) : ∃ u, (PodLay0.cs x)[0]? = some u ∧ ∀ a n c, u ≠ .slice a n c := ⟨_, rfl, fun _ _ _ e => by cases e⟩
theorem fst_B (x : BX) : ∃ u, (BudLay0.cs x)[0]? = some u ∧ ∀ a n c, u ≠ .slice a n c := ⟨_, rfl, fun _ _ _ e => by cases e⟩
theorem buds_row {w : World} {a : Option Addr} {len : Nat} {lx : List BX} (h : RowAt BudLay0 w a len lx) (hf : ∀ z ∈ lx, At1 w z) : BudsAt w a len (lx.map fun z => z.1) := by
  obtain ⟨g0, g1, g2, g3⟩ := h
  refine ⟨by rw [List.length_map]; exact g0, g1, g3.imp id ?_⟩
  rintro ⟨b, off, rfl, hb, hc⟩
  refine ⟨b, off, rfl, hb, fun i n hi => ?_⟩
  rw [List.getElem?_map] at hi
  obtain ⟨z, hz, rfl⟩ := Option.map_eq_some_iff.1 hi
  exact ⟨_, hc i z 0 _ hz rfl, hc i z 1 _ hz rfl, hc i z 2 _ hz rfl, hf z (List.mem_of_getElem? hz)⟩
section
variable {w w' : World} {N : Nat} (hs : w'.heap.size = w.heap.size) (hb : ∀ b, b ≠ N → w'.heap[b]? = w.heap[b]?) (hn : AllSl w N)
include hs hb hn
theorem nodes_pastS {v : Value} {l : List Nod} (h : NodesR w v l) : NodesR w' v l := by
  obtain ⟨a, cap, rfl, h1, h2, h3⟩ := h
  obtain ⟨lx, hm, hr, hat⟩ := nrows_x h3
  exact ⟨a, cap, rfl, h1, h2, by rw [← hm]; exact nodes_row (by rw [hm]; exact row_past fst_N hr hs hb hn) fun z hz => node_past (hat z hz) hs hb hn.noRow⟩
theorem pods_pastS {v : Value} {l : List Pd} (h : PodsR w v l) : PodsR w' v l := by
  obtain ⟨a, cap, rfl, h1, h2, h3⟩ := h
  obtain ⟨lx, hm, hr, hat⟩ := prows_x h3
  exact ⟨a, cap, rfl, h1, h2, by
    rw [← hm]
    exact pods_row (by rw [hm]; exact row_past fst_Pd hr hs hb hn) fun z hz => by
      have g := hat z hz
      exact ⟨g.name, g.owner, g.key, g.node, g.prio, g.most, vec_past g.need hs hb hn.noRow, reads_pastS fst_P g.labels hs hb hn, reads_pastS fst_T g.sel hs hb hn, reads_pastS fst_A g.tols hs hb hn⟩⟩
theorem buds_pastS {v : Value} {l : List Bd} (h : BudsR w v l) : BudsR w' v l := by
  obtain ⟨a, cap, rfl, h1, h2, h3⟩ := h
  obtain ⟨lx, hm, hr, hat⟩ := brows_x h3
  exact ⟨a, cap, rfl, h1, h2, by
    rw [← hm]
    exact buds_row (by rw [hm]; exact row_past fst_B hr hs hb hn) fun z hz => by
      have g := hat z hz
      exact ⟨g.name, g.floor, reads_pastS fst_T g.sel hs hb hn⟩⟩
theorem clu_pastS {v : Value} {s : Clu} (h : CluR w v s) : CluR w' v s := by
  obtain ⟨v1, v2, v3, e, g⟩ := h
  exact ⟨v1, v2, v3, e, nodes_pastS hs hb hn g.nodes, pods_pastS hs hb hn g.pods, buds_pastS hs hb hn g.buds⟩
end

end Go.Proofs.YtapnffejnhkoaaaGreat

/- Clusters: one as the reference's. -/
namespace Go.Proofs.YtapnffejnhkoaaaGreat
open Go.RowKit
set_option linter.unusedVariables false

set_option maxRecDepth 100000 in
set_option maxHeartbeats 6400000 in
theorem ofStR {v : Value} {s : Clu} {w : World} (h : CluR w v s) (hl : LowClu s) (e1 : s.nodes.length ≤ 1000) (e2 : s.pods.length ≤ 1000) (e3 : s.buds.length ≤ 1000) : Calls Tryz.prog 23 #[v] w fun e w' => ∃ v, e = .returned v ∧ CluR w' v s ∧ Kept w w' := by
  obtain ⟨v1, v2, v3, rfl, ⟨a, cap, rfl, l1, m1, h1⟩, ⟨b, cp, rfl, l2, m2, h2⟩, ⟨d, cb, rfl, l3, m3, h3⟩⟩ := h
  obtain ⟨nl, pl, bl⟩ := s
  dsimp only at *
  obtain ⟨len, hlen⟩ : ∃ q, nl.length = q := ⟨_, rfl⟩
  obtain ⟨m, hm⟩ : ∃ q, pl.length = q := ⟨_, rfl⟩
  obtain ⟨n, hn⟩ : ∃ q, bl.length = q := ⟨_, rfl⟩
  rw [hlen] at h1 l1
  rw [hm] at h2 l2
  rw [hn] at h3 l3
  try rw [hlen]
  try rw [hm]
  try rw [hn]
  obtain ⟨Z, hZ⟩ : ∃ Z, (w.alloc (.cells #[.slice a len cap, .slice b m cp, .slice d n cb] 26)).alloc (.cells #[.slice none 0 0, .slice none 0 0, .slice none 0 0] 67) = Z := ⟨_, rfl⟩
  have hkz : Kept w Z := by rw [← hZ]; exact kept_two _ _ _
  have cc := freshN w (.slice a len cap) [.slice b m cp, .slice d n cb] 26 Z (by rw [← hZ]; exact kept_alloc _ _)
  have HH := Lib.hid (show CellsN (w.heap.size + 1) [.slice none 0 0, .slice none 0 0, .slice none 0 0] Z by
    have dd := freshN (w.alloc (.cells #[.slice a len cap, .slice b m cp, .slice d n cb] 26)) (.slice none 0 0) [.slice none 0 0, .slice none 0 0] 67 Z (by rw [hZ]; exact Kept.refl _)
    rw [World.size_alloc] at dd
    exact dd)
  have HN := Lib.hid (fun W (k : Kept Z W) => ofAllR (nodes_at l1 m1 (h1.kept (hkz.trans k))) hl.nodes e1)
  have HP := Lib.hid (fun W (k : Kept Z W) => ofAllPR (pods_at l2 m2 (h2.kept (hkz.trans k))) hl.pods e2)
  have HB := Lib.hid (fun W (k : Kept Z W) => ofAllBR (buds_at l3 m3 (h3.kept (hkz.trans k))) hl.buds e3)
  have HKZ := Lib.hid hkz
  have HSL := Lib.hid (show ∀ W, Kept Z W → AllSl W (w.heap.size + 1) from fun W k => by
    have hh : Z.heap[w.heap.size + 1]? = some (.cells #[.slice none 0 0, .slice none 0 0, .slice none 0 0] 67) := by
      have := (w.alloc (.cells #[.slice a len cap, .slice b m cp, .slice d n cb] 26)).alloc_heap_new (.cells #[.slice none 0 0, .slice none 0 0, .slice none 0 0] 67)
      rw [World.size_alloc, hZ] at this
      exact this
    exact all_sl ((k.block _ (Array.getElem?_eq_some_iff.1 hh).1).trans hh))
  have HS := Lib.hid (show ∀ W, Kept Z W → W.cell? ⟨w.heap.size, 0, none⟩ = some (.slice a len cap) ∧ W.cell? ⟨w.heap.size, 1, none⟩ = some (.slice b m cp) ∧ W.cell? ⟨w.heap.size, 2, none⟩ = some (.slice d n cb) from fun W k => ⟨(cc.kept k).at_ 0 _ rfl, (cc.kept k).at_ 1 _ rfl, (cc.kept k).at_ 2 _ rfl⟩)
  have HS2 := Lib.hid (show ∀ U W : World, (∀ b, b ≠ w.heap.size + 1 → U.heap[b]? = W.heap[b]?) → Kept Z W → U.cell? ⟨w.heap.size, 0, none⟩ = some (.slice a len cap) ∧ U.cell? ⟨w.heap.size, 1, none⟩ = some (.slice b m cp) ∧ U.cell? ⟨w.heap.size, 2, none⟩ = some (.slice d n cb) from fun U W e k => by
    have c := (cc.kept k).block (e _ (by omega))
    exact ⟨c.at_ 0 _ rfl, c.at_ 1 _ rfl, c.at_ 2 _ rfl⟩)
  clear h1 h2 h3 l1 l2 l3 m1 m2 m3 hkz cc hl e1 e2 e3
  go_enter Tryz.func23, Tryz.ntmps23
  go_wp2_with fail
  try rw [hZ]
  clear hZ
  refine wp_region_held_drew (S := fun W => W.cell? ⟨w.heap.size, 0, none⟩ = some (.slice a len cap) ∧ W.cell? ⟨w.heap.size, 1, none⟩ = some (.slice b m cp) ∧ W.cell? ⟨w.heap.size, 2, none⟩ = some (.slice d n cb)) (by kernel_rfl) (HS.out _ (Kept.drew _)) (fun hHeld => ?_)
  refine wpAnyH_take (i := 0) (v := ?_) (by rw [List.getElem?_toArray]; exact rfl) (by kernel_rfl) (by kernel_rfl) (by kernel_rfl) (by exact fun _ _ _ h => h) (Or.inl ⟨by rfl, (by intro W hSw; obtain ⟨o0, o1, o2⟩ := hSw; go_simp <;> with_reducible rfl)⟩) (by assumption) ?_
  try simp only [Act.put, List.setIfInBounds_toArray, List.set_cons_zero, List.set_cons_succ]
  refine wpAnyH_take (i := 1) (v := ?_) (by rw [List.getElem?_toArray]; exact rfl) (by kernel_rfl) (by kernel_rfl) (by kernel_rfl) (by exact fun _ _ _ h => h) (Or.inl ⟨by rfl, (by intro W hSw; obtain ⟨o0, o1, o2⟩ := hSw; go_simp <;> with_reducible rfl)⟩) (by assumption) ?_
  try simp only [Act.put, List.setIfInBounds_toArray, List.set_cons_zero, List.set_cons_succ]
  refine wpAnyH_take (i := 3) (v := ?_) (by rw [List.getElem?_toArray]; exact rfl) (by kernel_rfl) (by kernel_rfl) (by kernel_rfl) (by exact fun _ _ _ h => h) (Or.inl ⟨by rfl, (by intro W hSw; obtain ⟨o0, o1, o2⟩ := hSw; go_simp <;> with_reducible rfl)⟩) (by assumption) ?_
  try simp only [Act.put, List.setIfInBounds_toArray, List.set_cons_zero, List.set_cons_succ]
  refine wpAnyH_take (i := 4) (v := ?_) (by rw [List.getElem?_toArray]; exact rfl) (by kernel_rfl) (by kernel_rfl) (by kernel_rfl) (by exact fun _ _ _ h => h) (Or.inl ⟨by rfl, (by intro W hSw; obtain ⟨o0, o1, o2⟩ := hSw; go_simp <;> with_reducible rfl)⟩) (by assumption) ?_
  try simp only [Act.put, List.setIfInBounds_toArray, List.set_cons_zero, List.set_cons_succ]
  refine wpAnyH_take (i := 6) (v := ?_) (by rw [List.getElem?_toArray]; exact rfl) (by kernel_rfl) (by kernel_rfl) (by kernel_rfl) (by exact fun _ _ _ h => h) (Or.inl ⟨by rfl, (by intro W hSw; obtain ⟨o0, o1, o2⟩ := hSw; go_simp <;> with_reducible rfl)⟩) (by assumption) ?_
  try simp only [Act.put, List.setIfInBounds_toArray, List.set_cons_zero, List.set_cons_succ]
  refine wpAnyH_take (i := 7) (v := ?_) (by rw [List.getElem?_toArray]; exact rfl) (by kernel_rfl) (by kernel_rfl) (by kernel_rfl) (by exact fun _ _ _ h => h) (Or.inl ⟨by rfl, (by intro W hSw; obtain ⟨o0, o1, o2⟩ := hSw; go_simp <;> with_reducible rfl)⟩) (by assumption) ?_
  try simp only [Act.put, List.setIfInBounds_toArray, List.set_cons_zero, List.set_cons_succ]
  have J := Lib.hid (Kept.drew Z)
  refine wpAnyH_ready (rs := [2]) (by kernel_rfl) (by simp) (AllReadyH.cons (by rw [List.getElem?_toArray]; exact rfl) (fun K9 hK9 => ?_) AllReadyH.nil)
  go_simp
  refine (HN.out _ J.out).mono ?_
  rintro e1 w1 ⟨u1, rfl, hr, kk⟩
  have J := Lib.hid (J.out.trans kk)
  have hr2 := hr
  obtain ⟨x1, q1, rfl, -, -, -⟩ := hr2
  rw [hlen] at hr
  try rw [hlen]
  have RR1 := Lib.hid hr
  clear hr kk
  refine hK9.out _ _ (HS.out _ J.out) (fun hHeld1 => ?_)
  clear hK9 K9
  try simp only [Act.put, List.setIfInBounds_toArray, List.set_cons_zero, List.set_cons_succ]
  refine wpAnyH_ready (rs := [5]) (by kernel_rfl) (by simp) (AllReadyH.cons (by rw [List.getElem?_toArray]; exact rfl) (fun K9 hK9 => ?_) AllReadyH.nil)
  go_simp
  refine (HP.out _ J.out).mono ?_
  rintro e2 w2 ⟨u2, rfl, hr, kk⟩
  have J := Lib.hid (J.out.trans kk)
  have RR1 := Lib.hid (RR1.out.kept kk)
  have hr2 := hr
  obtain ⟨x2, q2, rfl, -, -, -⟩ := hr2
  rw [hm] at hr
  try rw [hm]
  have RR2 := Lib.hid hr
  clear hr kk
  refine hK9.out _ _ (HS.out _ J.out) (fun hHeld2 => ?_)
  clear hK9 K9
  try simp only [Act.put, List.setIfInBounds_toArray, List.set_cons_zero, List.set_cons_succ]
  refine wpAnyH_ready (rs := [8]) (by kernel_rfl) (by simp) (AllReadyH.cons (by rw [List.getElem?_toArray]; exact rfl) (fun K9 hK9 => ?_) AllReadyH.nil)
  go_simp
  refine (HB.out _ J.out).mono ?_
  rintro e3 w3 ⟨u3, rfl, hr, kk⟩
  have J := Lib.hid (J.out.trans kk)
  have RR1 := Lib.hid (RR1.out.kept kk)
  have RR2 := Lib.hid (RR2.out.kept kk)
  have hr2 := hr
  obtain ⟨x3, q3, rfl, -, -, -⟩ := hr2
  rw [hn] at hr
  try rw [hn]
  have RR3 := Lib.hid hr
  clear hr kk
  refine hK9.out _ _ (HS.out _ J.out) (fun hHeld3 => ?_)
  clear hK9 K9
  try simp only [Act.put, List.setIfInBounds_toArray, List.set_cons_zero, List.set_cons_succ]
  refine wpAnyH_take (i := 9) (v := ?_) (by rw [List.getElem?_toArray]; exact rfl) (by kernel_rfl) (by kernel_rfl) (by kernel_rfl) (by exact fun _ _ _ h => h) (Or.inl ⟨by rfl, (by intro W hSw; obtain ⟨o0, o1, o2⟩ := hSw; go_simp <;> with_reducible rfl)⟩) (by assumption) ?_
  try simp only [Act.put, List.setIfInBounds_toArray, List.set_cons_zero, List.set_cons_succ]
  have H9 := Lib.hid (HH.out.kept J.out)
  have z0 := H9.out.at_ 0 _ rfl
  have z1 := H9.out.at_ 1 _ rfl
  have z2 := H9.out.at_ 2 _ rfl
  have f0 := H9.out.free 0
  have f1 := H9.out.free 1
  have f2 := H9.out.free 2
  have PP := Lib.hid (putN (vs := [.slice x1 len q1, .slice x2 m q2, .slice x3 n q3]) H9.out rfl)
  refine wpAnyH_ready (rs := [10]) (by kernel_rfl) (by simp) (AllReadyH.cons (by rw [List.getElem?_toArray]; exact rfl) (fun K9 hK9 => ?_) AllReadyH.nil)
  go_simp
  obtain ⟨WE, hWE⟩ : ∃ W, w3.setCells (w.heap.size + 1) 0 [.slice x1 len q1, .slice x2 m q2, .slice x3 n q3] = W := ⟨_, rfl⟩
  have hWE2 : (((w3.setCell ⟨(w.heap.size + 1), 0, none⟩ (.slice x1 len q1)).setCell ⟨(w.heap.size + 1), 1, none⟩ (.slice x2 m q2)).setCell ⟨(w.heap.size + 1), 2, none⟩ (.slice x3 n q3)) = WE := hWE
  rw [hWE] at PP
  try rw [hWE2]
  obtain ⟨PC, hsz, hbl, hkp⟩ := PP.out
  skip
  refine hK9.out _ _ (HS2.out _ _ hbl J.out) (fun hHeldS => ?_)
  clear hK9 K9 z0 z1 z2 f0 f1 f2
  try simp only [Act.put, List.setIfInBounds_toArray, List.set_cons_zero, List.set_cons_succ]
  refine wpAnyH_done (by kernel_rfl) ?_ _
  go_wp2
  refine bodyPost_ret (by simp [results, Tryz.results23, go_sem, PC.at_ 0 _ rfl, PC.at_ 1 _ rfl, PC.at_ 2 _ rfl]; try rfl) rfl ?_
  have SL := HSL.out _ J.out
  exact ⟨_, rfl, ⟨_, _, _, rfl, nodes_pastS hsz hbl SL RR1.out, pods_pastS hsz hbl SL RR2.out, buds_pastS hsz hbl SL RR3.out⟩, hkp _ _ (Nat.le_succ _) (HKZ.out.trans J.out)⟩

end Go.Proofs.YtapnffejnhkoaaaGreat
