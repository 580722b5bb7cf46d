/- Package by package: contracts of the functions that the laws call. -/
import Derived.Test.YtfpgekjhcfoohaaGreatShort
import Derived.Test.YtfpgekjhcfoohaaGreatStA
import Derived.Test.YtfpgekjhcfoohaaGreatBudR
import Derived.Test.YtfpgekjhcfoohaaGreatNodFew
import Derived.Test.YtfpgekjhcfoohaaGreatPodFew
import Derived.Test.YtfpgekjhcfoohaaGreatNodOfAll
import Derived.Test.YtfpgekjhcfoohaaGreatPodOfAll
import Derived.Deep.RegionHeld3
import Derived.Test.YtfpgekjhcfoohaaGreatStE
import Derived.Test.YtfpgekjhcfoohaaGreatNodRefParse
import Derived.Test.YtfpgekjhcfoohaaGreatNodB
import Derived.Test.YtfpgekjhcfoohaaGreatPodRefEq
import Derived.Test.YtfpgekjhcfoohaaGreatPodP
/- Clusters: whether one is small; one as the reference's. -/
set_option linter.unusedVariables false
namespace Go.Proofs.YtfpgekjhcfoohaaGreat
open Go.RowKit
def fewSt (s : Clu) : Bool := decide (s.nodes.length ≤ 34) && (decide (s.pods.length ≤ 130) && (fewBs s.buds && (s.nodes.all fewNod && s.pods.all fewPd)))
theorem nodes_at {a : Option Addr} {len cap : Nat} {l : List Nod} {w : World} (h1 : len ≤ cap) (h2 : cap ≤ maxLen) (h : NodesAt w a len l) : NodesR w (.slice a len cap) l := ⟨a, cap, by rw [h.1], by rw [h.1]; exact h1, h2, by rw [h.1]; exact h⟩
theorem pods_at {a : Option Addr} {len cap : Nat} {l : List Pd} {w : World} (h1 : len ≤ cap) (h2 : cap ≤ maxLen) (h : PodsAt w a len l) : PodsR w (.slice a len cap) l := ⟨a, cap, by rw [h.1], by rw [h.1]; exact h1, h2, by rw [h.1]; exact h⟩
theorem buds_at {a : Option Addr} {len cap : Nat} {l : List Bd} {w : World} (h1 : len ≤ cap) (h2 : cap ≤ maxLen) (h : BudsAt w a len l) : BudsR w (.slice a len cap) l := ⟨a, cap, by rw [h.1], by rw [h.1]; exact h1, h2, by rw [h.1]; exact h⟩
theorem all_hit {α : Type} {f : α → Bool} {l : List α} {k : Nat} {x : α} (hd : l.drop k = x :: l.drop (k + 1)) (h : f x = true) (hr : (l.drop k).all f = l.all f) : (l.drop (k + 1)).all f = l.all f := by
 rw [← hr, hd, List.all_cons, h, Bool.true_and]
theorem all_miss {α : Type} {f : α → Bool} {l : List α} {k : Nat} {x : α} (hd : l.drop k = x :: l.drop (k + 1)) (h : f x = false) (hr : (l.drop k).all f = l.all f) : l.all f = false := by
 rw [← hr, hd, List.all_cons, h, Bool.false_and]
theorem all_end {α : Type} {f : α → Bool} {l : List α} {k : Nat} (h : l.length ≤ k) (hr : (l.drop k).all f = l.all f) : l.all f = true := by
 rw [← hr, List.drop_of_length_le h]; rfl
set_option maxRecDepth 100000 in
set_option maxHeartbeats 3200000 in
theorem fewStR {v : Value} {s : Clu} {c : Bool} {w : World} (h : CluR w v s) (hc : fewSt s = c) : Calls Tryz.prog 8 #[v] w (Say (.bool c) w) := by
 subst hc
 obtain ⟨v1, v2, v3, rfl, ⟨a, cap, rfl, l1, m1, h1⟩, ⟨b, cp, rfl, l2, m2, h2⟩, ⟨d, cb, rfl, l3, m3, h3⟩⟩ := h
 obtain ⟨nl, pl, bl⟩ := s
 dsimp only at *
 obtain ⟨len, hlen⟩ : ∃ q, nl.length = q := ⟨_, rfl⟩
 obtain ⟨m, hm⟩ : ∃ q, pl.length = q := ⟨_, rfl⟩
 obtain ⟨n, hn⟩ : ∃ q, bl.length = q := ⟨_, rfl⟩
 rw [hlen] at h1 l1
 rw [hm] at h2 l2
 rw [hn] at h3 l3
 try rw [hlen]
 try rw [hm]
 try rw [hn]
 skip
 obtain ⟨Z, hZ⟩ : ∃ Z, w.alloc (.cells #[.slice a len cap, .slice b m cp, .slice d n cb] 26) = Z := ⟨_, rfl⟩
 have hkz : Kept w Z := by rw [← hZ]; exact kept_alloc _ _
 have HQ := lH (show CellsN w.heap.size [.slice a len cap, .slice b m cp, .slice d n cb] Z from freshN w (.slice a len cap) [.slice b m cp, .slice d n cb] 26 Z (by rw [hZ]; exact Kept.refl _))
 obtain ⟨e3, he3⟩ : ∃ e, fewBs bl = e := ⟨_, rfl⟩
 have HB := lH (fewBsR (buds_at l3 m3 (h3.kept hkz)) he3)
 have HV := lH (show fewSt ⟨nl, pl, bl⟩ = (decide (len ≤ 34) && (decide (m ≤ 130) && (e3 && (nl.all fewNod && pl.all fewPd)))) by unfold fewSt; dsimp only; rw [hlen, hm, he3])
 have HN := lH (h1.kept hkz)
 have HP := lH (h2.kept hkz)
 have HKZ := lH hkz
 have HM1 := lH (Nat.le_trans l1 m1)
 have HM2 := lH (Nat.le_trans l2 m2)
 have HL1 := lH hlen
 have HL2 := lH hm
 have hml1 := Nat.le_trans l1 m1
 have hml2 := Nat.le_trans l2 m2
 unfold maxLen at hml1 hml2
 clear h1 h2 h3 l1 l2 l3 m1 m2 m3 he3 hkz
 have cq0 := HQ.out.at_ 0 _ rfl
 have cq1 := HQ.out.at_ 1 _ rfl
 have cq2 := HQ.out.at_ 2 _ rfl
 by_cases hA : 34 < len
 · have HX := lH (HV.out.trans (by rw [decide_eq_false (show ¬ len ≤ 34 by omega), Bool.false_and]))
   have hA' : (34 : Int) < (len : Int) := by omega
   rw [HX.out]
   go_enter Tryz.func8, Tryz.ntmps8
   go_wp2
   try rw [hZ]
   go_ret
   exact ⟨rfl, HKZ.out⟩
 by_cases hB : 130 < m
 · have HX := lH (HV.out.trans (by rw [decide_eq_true (show len ≤ 34 by omega), decide_eq_false (show ¬ m ≤ 130 by omega), Bool.false_and, Bool.and_false]))
   have hA' : ¬ (34 : Int) < (len : Int) := by omega
   have hB' : (130 : Int) < (m : Int) := by omega
   rw [HX.out]
   go_enter Tryz.func8, Tryz.ntmps8
   go_wp2
   try rw [hZ]
   go_ret
   exact ⟨rfl, HKZ.out⟩
 have hA' : ¬ (34 : Int) < (len : Int) := by omega
 have hB' : ¬ (130 : Int) < (m : Int) := by omega
 have HX := lH (HV.out.trans (by rw [decide_eq_true (show len ≤ 34 by omega), decide_eq_true (show m ≤ 130 by omega), Bool.true_and, Bool.true_and]))
 rw [HX.out]
 clear HV HX
 go_enter Tryz.func8, Tryz.ntmps8
 go_wp2_with fail
 try rw [hZ]
 clear hZ
 refine HB.out.mono ?_
 rintro e w1 ⟨rfl, kk⟩
 have KW := lH kk
 clear kk cq0 cq1 cq2 HB
 cases e3 with
 | false =>
  go_wp2
  go_ret
  exact ⟨rfl, HKZ.out.trans KW.out⟩
 | true =>
  have cq0 := (HQ.out.kept KW.out).at_ 0 _ rfl
  have cq1 := (HQ.out.kept KW.out).at_ 1 _ rfl
  have cq2 := (HQ.out.kept KW.out).at_ 2 _ rfl
  go_wp2
  go_loopw [3] (fun i wr => ∃ k : Nat, k ≤ len ∧ i = .int .i64 k ∧ (nl.drop k).all fewNod = nl.all fewNod ∧ Kept Z wr) (fun i _ => len - (intOf i).toNat)
  case atStart => exact ⟨0, Nat.zero_le _, rfl, rfl, KW.out⟩
  case round =>
   clear cq0 cq1 cq2
   obtain ⟨k, hk, rfl, hrest, hK⟩ := hrel
   have HS := lH hrest
   have KN := lH hK
   have cq0 := (HQ.out.kept hK).at_ 0 _ rfl
   have cq1 := (HQ.out.kept hK).at_ 1 _ rfl
   have cq2 := (HQ.out.kept hK).at_ 2 _ rfl
   by_cases hlt : k < len
   · obtain ⟨b9, off, rfl⟩ := HN.out.form.resolve_left (by omega)
     obtain ⟨n9, x1, y1, z1, x2, y2, z2, x3, y3, z3, hn, hd, hb, p0, p1, p2, p3, p4, hat⟩ := (HN.out.kept hK).at_ hlt
     have HD := lH hd
     obtain ⟨t, ht⟩ : ∃ t, fewNod n9 = t := ⟨_, rfl⟩
     have HT := lH ht
     have HC := lH (show Calls Tryz.prog 35 #[NodV n9 (.slice x1 y1 z1) (.slice x2 y2 z2) (.slice x3 y3 z3)] wr (Say (.bool t) wr) from fewNodR ⟨_, _, _, rfl, hat⟩ ht)
     unfold NodV at HC
     have hkk : (k : Int) < (len : Int) := by omega
     clear hrest hK hat hn hd ht
     cases t with
     | false =>
      have HF := lH (all_miss HD.out HT.out HS.out)
      go_wp2_with fail
      refine HC.out.mono ?_
      rintro e w9 ⟨rfl, kk⟩
      have KW := lH (KN.out.trans kk)
      clear kk
      go_wp2
      go_ret
      exact ⟨by rw [HF.out]; simp, HKZ.out.trans KW.out⟩
     | true =>
      have HF := lH (all_hit HD.out HT.out HS.out)
      go_wp2_with fail
      refine HC.out.mono ?_
      rintro e w9 ⟨rfl, kk⟩
      have KW := lH (KN.out.trans kk)
      clear kk cq0 cq1 cq2
      go_wp2
      go_roundw
      case rel => exact ⟨k + 1, by omega, by go_num, HF.out, KW.out⟩
      case measure => simp [intOf]; omega
   · have HL1F := lH (all_end (by rw [HL1.out]; omega) hrest)
     have hkk : ¬ (k : Int) < (len : Int) := by omega
     clear hrest hK
     clear cq0 cq1 cq2
     have cq0 := (HQ.out.kept KN.out).at_ 0 _ rfl
     have cq1 := (HQ.out.kept KN.out).at_ 1 _ rfl
     have cq2 := (HQ.out.kept KN.out).at_ 2 _ rfl
     go_wp2
     go_loopw [4] (fun i wr => ∃ k : Nat, k ≤ m ∧ i = .int .i64 k ∧ (pl.drop k).all fewPd = pl.all fewPd ∧ Kept Z wr) (fun i _ => m - (intOf i).toNat)
     case atStart => exact ⟨0, Nat.zero_le _, rfl, rfl, KN.out⟩
     case round =>
      clear cq0 cq1 cq2
      obtain ⟨k, hk, rfl, hrest, hK⟩ := hrel
      have HS := lH hrest
      have KP := lH hK
      have cq0 := (HQ.out.kept hK).at_ 0 _ rfl
      have cq1 := (HQ.out.kept hK).at_ 1 _ rfl
      have cq2 := (HQ.out.kept hK).at_ 2 _ rfl
      by_cases hlt : k < m
      · obtain ⟨b9, off, rfl⟩ := HP.out.form.resolve_left (by omega)
        obtain ⟨n9, x1, y1, z1, x2, y2, z2, x3, y3, z3, x4, y4, z4, hn, hd, hb, p0, p1, p2, p3, p4, p5, p6, p7, p8, p9, p10, hat⟩ := (HP.out.kept hK).at_ hlt
        have HD := lH hd
        obtain ⟨t, ht⟩ : ∃ t, fewPd n9 = t := ⟨_, rfl⟩
        have HT := lH ht
        have HC := lH (show Calls Tryz.prog 17 #[PodV n9 (.slice x1 y1 z1) (.slice x2 y2 z2) (.slice x3 y3 z3) (.slice x4 y4 z4)] wr (Say (.bool t) wr) from fewPdR ⟨_, _, _, _, rfl, hat⟩ ht)
        unfold PodV at HC
        have hkk : (k : Int) < (m : Int) := by omega
        clear hrest hK hat hn hd ht
        cases t with
        | false =>
         have HF := lH (all_miss HD.out HT.out HS.out)
         go_wp2_with fail
         refine HC.out.mono ?_
         rintro e w9 ⟨rfl, kk⟩
         have KW := lH (KP.out.trans kk)
         clear kk
         go_wp2
         go_ret
         exact ⟨by rw [HF.out]; simp, HKZ.out.trans KW.out⟩
        | true =>
         have HF := lH (all_hit HD.out HT.out HS.out)
         go_wp2_with fail
         refine HC.out.mono ?_
         rintro e w9 ⟨rfl, kk⟩
         have KW := lH (KP.out.trans kk)
         clear kk cq0 cq1 cq2
         go_wp2
         go_roundw
         case rel => exact ⟨k + 1, by omega, by go_num, HF.out, KW.out⟩
         case measure => simp [intOf]; omega
      · have HL2F := lH (all_end (by rw [HL2.out]; omega) hrest)
        have hkk : ¬ (k : Int) < (m : Int) := by omega
        clear hrest hK
        go_wp2
        go_ret
        exact ⟨by rw [HL1F.out, HL2F.out]; rfl, HKZ.out.trans KP.out⟩
open Go.RowKit
def AllSl (W : World) (q : Nat) : Prop := ∀ i u, W.cell? ⟨q, i, none⟩ = some u → ∃ a n c, u = .slice a n c
theorem all_sl {W : World} {q : Nat} {a1 a2 a3 : Option Addr} {m1 c1 m2 c2 m3 c3 : Nat} {T : TypeId} {fr : Nat × Nat} (hh : W.heap[q]? = some (.cells #[.slice a1 m1 c1, .slice a2 m2 c2, .slice a3 m3 c3] T fr)) : AllSl W q := by
 intro i u h
 rw [Lib.cell_of_heap hh] at h
 match i, h with
 | 0, h => cases h; exact ⟨_, _, _, rfl⟩
 | 1, h => cases h; exact ⟨_, _, _, rfl⟩
 | 2, h => cases h; exact ⟨_, _, _, rfl⟩
 | i + 3, h => simp at h
theorem AllSl.noRow {W : World} {q : Nat} (h : AllSl W q) : NoRow W q := fun o x u h1 _ => by
 obtain ⟨_, _, _, e⟩ := h _ _ h1
 cases e
theorem row_past {α : Type} {L : Lay α} {w w' : World} {a : Option Addr} {len : Nat} {l : List α} {N : Nat} (hL : ∀ x, ∃ u, (L.cs x)[0]? = some u ∧ ∀ a n c, u ≠ .slice a n c) (h : RowAt L w a len l) (hs : w'.heap.size = w.heap.size) (hb : ∀ b, b ≠ N → w'.heap[b]? = w.heap[b]?) (hn : AllSl w N) : RowAt L w' a len l := by
 obtain ⟨h3, h4, h5, h6⟩ := h
 refine ⟨h3, h4, h5, ?_⟩
 rcases h6 with h6 | ⟨b, off, rfl, hlt, hc⟩
 · exact .inl h6
 · cases l with
   | nil => exact .inl h3.symm
   | cons x t =>
    have hne : b ≠ N := by
     rintro rfl
     obtain ⟨u, g0, g1⟩ := hL x
     obtain ⟨_, _, _, e⟩ := hn _ _ (hc 0 x 0 _ rfl g0)
     exact g1 _ _ _ e
    exact .inr ⟨b, off, rfl, by rw [hs]; exact hlt, fun i x j u hi hj => (World.cell?_of_block (a := ⟨b, off + i * L.m + j, none⟩) (hb b hne)).trans (hc i x j u hi hj)⟩
theorem reads_pastS {α : Type} {L : Lay α} {w w' : World} {v : Value} {l : List α} {N : Nat} (hL : ∀ x, ∃ u, (L.cs x)[0]? = some u ∧ ∀ a n c, u ≠ .slice a n c) (h : Reads L w v l) (hs : w'.heap.size = w.heap.size) (hb : ∀ b, b ≠ N → w'.heap[b]? = w.heap[b]?) (hn : AllSl w N) : Reads L w' v l := by
 obtain ⟨a, cap, rfl, h1, h2, h3⟩ := h
 exact ⟨a, cap, rfl, h1, h2, row_past hL h3 hs hb hn⟩
theorem fst_P (x : ByteArray × ByteArray) : ∃ u, (PairLay.cs x)[0]? = some u ∧ ∀ a n c, u ≠ .slice a n c := ⟨_, rfl, fun _ _ _ e => by cases e⟩
theorem fst_A (x : NT) : ∃ u, (TaLay.cs x)[0]? = some u ∧ ∀ a n c, u ≠ .slice a n c := ⟨_, rfl, fun _ _ _ e => by cases e⟩
theorem fst_T (x : Int × ByteArray × ByteArray) : ∃ u, (TermLay.cs x)[0]? = some u ∧ ∀ a n c, u ≠ .slice a n c := ⟨_, rfl, fun _ _ _ e => by cases e⟩
theorem fst_N (x : NX) : ∃ u, (NodLay0.cs x)[0]? = some u ∧ ∀ a n c, u ≠ .slice a n c := ⟨_, rfl, fun _ _ _ e => by cases e⟩
theorem fst_Pd (x : PX) : ∃ u, (PodLay0.cs x)[0]? = some u ∧ ∀ a n c, u ≠ .slice a n c := ⟨_, rfl, fun _ _ _ e => by cases e⟩
theorem fst_B (x : BX) : ∃ u, (BudLay0.cs x)[0]? = some u ∧ ∀ a n c, u ≠ .slice a n c := ⟨_, rfl, fun _ _ _ e => by cases e⟩
theorem buds_row {w : World} {a : Option Addr} {len : Nat} {lx : List BX} (h : RowAt BudLay0 w a len lx) (hf : ∀ z ∈ lx, At1 w z) : BudsAt w a len (lx.map fun z => z.1) := by
 obtain ⟨g0, g1, g2, g3⟩ := h
 refine ⟨by rw [List.length_map]; exact g0, g1, g3.imp id ?_⟩
 rintro ⟨b, off, rfl, hb, hc⟩
 refine ⟨b, off, rfl, hb, fun i n hi => ?_⟩
 rw [List.getElem?_map] at hi
 obtain ⟨z, hz, rfl⟩ := Option.map_eq_some_iff.1 hi
 exact ⟨_, hc i z 0 _ hz rfl, hc i z 1 _ hz rfl, hc i z 2 _ hz rfl, hf z (List.mem_of_getElem? hz)⟩
section
variable {w w' : World} {N : Nat} (hs : w'.heap.size = w.heap.size) (hb : ∀ b, b ≠ N → w'.heap[b]? = w.heap[b]?) (hn : AllSl w N)
include hs hb hn
theorem nodes_pastS {v : Value} {l : List Nod} (h : NodesR w v l) : NodesR w' v l := by
 obtain ⟨a, cap, rfl, h1, h2, h3⟩ := h
 obtain ⟨lx, hm, hr, hat⟩ := nrows_x h3
 exact ⟨a, cap, rfl, h1, h2, by rw [← hm]; exact nodes_row (by rw [hm]; exact row_past fst_N hr hs hb hn) fun z hz => node_past (hat z hz) hs hb hn.noRow⟩
theorem pods_pastS {v : Value} {l : List Pd} (h : PodsR w v l) : PodsR w' v l := by
 obtain ⟨a, cap, rfl, h1, h2, h3⟩ := h
 obtain ⟨lx, hm, hr, hat⟩ := prows_x h3
 exact ⟨a, cap, rfl, h1, h2, by
  rw [← hm]
  exact pods_row (by rw [hm]; exact row_past fst_Pd hr hs hb hn) fun z hz => by
   have g := hat z hz
   exact ⟨g.name, g.owner, g.key, g.node, g.prio, g.most, vec_past g.need hs hb hn.noRow, reads_pastS fst_P g.labels hs hb hn, reads_pastS fst_T g.sel hs hb hn, reads_pastS fst_A g.tols hs hb hn⟩⟩
theorem buds_pastS {v : Value} {l : List Bd} (h : BudsR w v l) : BudsR w' v l := by
 obtain ⟨a, cap, rfl, h1, h2, h3⟩ := h
 obtain ⟨lx, hm, hr, hat⟩ := brows_x h3
 exact ⟨a, cap, rfl, h1, h2, by
  rw [← hm]
  exact buds_row (by rw [hm]; exact row_past fst_B hr hs hb hn) fun z hz => by
   have g := hat z hz
   exact ⟨g.name, g.floor, reads_pastS fst_T g.sel hs hb hn⟩⟩
theorem clu_pastS {v : Value} {s : Clu} (h : CluR w v s) : CluR w' v s := by
 obtain ⟨v1, v2, v3, e, g⟩ := h
 exact ⟨v1, v2, v3, e, nodes_pastS hs hb hn g.nodes, pods_pastS hs hb hn g.pods, buds_pastS hs hb hn g.buds⟩
end
end Go.Proofs.YtfpgekjhcfoohaaGreat
/- Clusters: one as the reference's. -/
namespace Go.Proofs.YtfpgekjhcfoohaaGreat
open Go.RowKit
set_option maxRecDepth 100000 in
set_option maxHeartbeats 6400000 in
theorem ofStR {v : Value} {s : Clu} {w : World} (h : CluR w v s) (hl : LowClu s) (e1 : s.nodes.length ≤ 1000) (e2 : s.pods.length ≤ 1000) (e3 : s.buds.length ≤ 1000) : Calls Tryz.prog 11 #[v] w fun e w' => ∃ v, e = .returned v ∧ CluR w' v s ∧ Kept w w' := by
 obtain ⟨v1, v2, v3, rfl, ⟨a, cap, rfl, l1, m1, h1⟩, ⟨b, cp, rfl, l2, m2, h2⟩, ⟨d, cb, rfl, l3, m3, h3⟩⟩ := h
 obtain ⟨nl, pl, bl⟩ := s
 dsimp only at *
 obtain ⟨len, hlen⟩ : ∃ q, nl.length = q := ⟨_, rfl⟩
 obtain ⟨m, hm⟩ : ∃ q, pl.length = q := ⟨_, rfl⟩
 obtain ⟨n, hn⟩ : ∃ q, bl.length = q := ⟨_, rfl⟩
 rw [hlen] at h1 l1
 rw [hm] at h2 l2
 rw [hn] at h3 l3
 try rw [hlen]
 try rw [hm]
 try rw [hn]
 obtain ⟨Z, hZ⟩ : ∃ Z, (w.alloc (.cells #[.slice a len cap, .slice b m cp, .slice d n cb] 26)).alloc (.cells #[.slice none 0 0, .slice none 0 0, .slice none 0 0] 35) = Z := ⟨_, rfl⟩
 have hkz : Kept w Z := by rw [← hZ]; exact kept_two _ _ _
 have cc := freshN w (.slice a len cap) [.slice b m cp, .slice d n cb] 26 Z (by rw [← hZ]; exact kept_alloc _ _)
 have HH := lH (show CellsN (w.heap.size + 1) [.slice none 0 0, .slice none 0 0, .slice none 0 0] Z by
  have dd := freshN (w.alloc (.cells #[.slice a len cap, .slice b m cp, .slice d n cb] 26)) (.slice none 0 0) [.slice none 0 0, .slice none 0 0] 35 Z (by rw [hZ]; exact Kept.refl _)
  rw [World.size_alloc] at dd
  exact dd)
 have HN := lH (fun W (k : Kept Z W) => ofAllR (nodes_at l1 m1 (h1.kept (hkz.trans k))) hl.nodes e1)
 have HP := lH (fun W (k : Kept Z W) => ofAllPR (pods_at l2 m2 (h2.kept (hkz.trans k))) hl.pods e2)
 have HB := lH (fun W (k : Kept Z W) => ofAllBR (buds_at l3 m3 (h3.kept (hkz.trans k))) hl.buds e3)
 have HKZ := lH hkz
 have HSL := lH (show ∀ W, Kept Z W → AllSl W (w.heap.size + 1) from fun W k => by
  have hh : Z.heap[w.heap.size + 1]? = some (.cells #[.slice none 0 0, .slice none 0 0, .slice none 0 0] 35) := by
   have := (w.alloc (.cells #[.slice a len cap, .slice b m cp, .slice d n cb] 26)).alloc_heap_new (.cells #[.slice none 0 0, .slice none 0 0, .slice none 0 0] 35)
   rw [World.size_alloc, hZ] at this
   exact this
  exact all_sl ((k.block _ (Array.getElem?_eq_some_iff.1 hh).1).trans hh))
 have HS := lH (show ∀ W, Kept Z W → W.cell? ⟨w.heap.size, 0, none⟩ = some (.slice a len cap) ∧ W.cell? ⟨w.heap.size, 1, none⟩ = some (.slice b m cp) ∧ W.cell? ⟨w.heap.size, 2, none⟩ = some (.slice d n cb) from fun W k => ⟨(cc.kept k).at_ 0 _ rfl, (cc.kept k).at_ 1 _ rfl, (cc.kept k).at_ 2 _ rfl⟩)
 have HS2 := lH (show ∀ U W : World, (∀ b, b ≠ w.heap.size + 1 → U.heap[b]? = W.heap[b]?) → Kept Z W → U.cell? ⟨w.heap.size, 0, none⟩ = some (.slice a len cap) ∧ U.cell? ⟨w.heap.size, 1, none⟩ = some (.slice b m cp) ∧ U.cell? ⟨w.heap.size, 2, none⟩ = some (.slice d n cb) from fun U W e k => by
  have c := (cc.kept k).block (e _ (by omega))
  exact ⟨c.at_ 0 _ rfl, c.at_ 1 _ rfl, c.at_ 2 _ rfl⟩)
 clear h1 h2 h3 l1 l2 l3 m1 m2 m3 hkz cc hl e1 e2 e3
 go_enter Tryz.func11, Tryz.ntmps11
 go_wp2_with fail
 try rw [hZ]
 clear hZ
 refine wp_region_held_drew (S := fun W => W.cell? ⟨w.heap.size, 0, none⟩ = some (.slice a len cap) ∧ W.cell? ⟨w.heap.size, 1, none⟩ = some (.slice b m cp) ∧ W.cell? ⟨w.heap.size, 2, none⟩ = some (.slice d n cb)) (by kernel_rfl) (HS.out _ (Kept.drew _)) (fun hHeld => ?_)
 refine tkH 0 (v := ?_) (y := Or.inl ⟨by rfl, (by rintro W ⟨o0, o1, o2⟩; go_simp <;> with_reducible rfl)⟩) (h := ?_)
 try simp only [nP]
 refine tkH 1 (v := ?_) (y := Or.inl ⟨by rfl, (by rintro W ⟨o0, o1, o2⟩; go_simp <;> with_reducible rfl)⟩) (h := ?_)
 try simp only [nP]
 refine tkH 3 (v := ?_) (y := Or.inl ⟨by rfl, (by rintro W ⟨o0, o1, o2⟩; go_simp <;> with_reducible rfl)⟩) (h := ?_)
 try simp only [nP]
 refine tkH 4 (v := ?_) (y := Or.inl ⟨by rfl, (by rintro W ⟨o0, o1, o2⟩; go_simp <;> with_reducible rfl)⟩) (h := ?_)
 try simp only [nP]
 refine tkH 6 (v := ?_) (y := Or.inl ⟨by rfl, (by rintro W ⟨o0, o1, o2⟩; go_simp <;> with_reducible rfl)⟩) (h := ?_)
 try simp only [nP]
 refine tkH 7 (v := ?_) (y := Or.inl ⟨by rfl, (by rintro W ⟨o0, o1, o2⟩; go_simp <;> with_reducible rfl)⟩) (h := ?_)
 try simp only [nP]
 have J := lH (Kept.drew Z)
 refine rdH (rs := [2]) (h := coH (fun K9 hK9 => ?_) AllReadyH.nil)
 go_simp
 refine (HN.out _ J.out).mono ?_
 rintro e1 w1 ⟨u1, rfl, hr, kk⟩
 have J := lH (J.out.trans kk)
 have hr2 := hr
 obtain ⟨x1, q1, rfl, -, -, -⟩ := hr2
 rw [hlen] at hr
 try rw [hlen]
 have RR1 := lH hr
 clear hr kk
 refine hK9.out _ _ (HS.out _ J.out) (fun hHeld1 => ?_)
 clear hK9 K9
 try simp only [nP]
 refine rdH (rs := [5]) (h := coH (fun K9 hK9 => ?_) AllReadyH.nil)
 go_simp
 refine (HP.out _ J.out).mono ?_
 rintro e2 w2 ⟨u2, rfl, hr, kk⟩
 have J := lH (J.out.trans kk)
 have RR1 := lH (RR1.out.kept kk)
 have hr2 := hr
 obtain ⟨x2, q2, rfl, -, -, -⟩ := hr2
 rw [hm] at hr
 try rw [hm]
 have RR2 := lH hr
 clear hr kk
 refine hK9.out _ _ (HS.out _ J.out) (fun hHeld2 => ?_)
 clear hK9 K9
 try simp only [nP]
 refine rdH (rs := [8]) (h := coH (fun K9 hK9 => ?_) AllReadyH.nil)
 go_simp
 refine (HB.out _ J.out).mono ?_
 rintro e3 w3 ⟨u3, rfl, hr, kk⟩
 have J := lH (J.out.trans kk)
 have RR1 := lH (RR1.out.kept kk)
 have RR2 := lH (RR2.out.kept kk)
 have hr2 := hr
 obtain ⟨x3, q3, rfl, -, -, -⟩ := hr2
 rw [hn] at hr
 try rw [hn]
 have RR3 := lH hr
 clear hr kk
 refine hK9.out _ _ (HS.out _ J.out) (fun hHeld3 => ?_)
 clear hK9 K9
 try simp only [nP]
 refine tkH 9 (v := ?_) (y := Or.inl ⟨by rfl, (by rintro W ⟨o0, o1, o2⟩; go_simp <;> with_reducible rfl)⟩) (h := ?_)
 try simp only [nP]
 have H9 := lH (HH.out.kept J.out)
 have z0 := H9.out.at_ 0 _ rfl
 have z1 := H9.out.at_ 1 _ rfl
 have z2 := H9.out.at_ 2 _ rfl
 have f0 := H9.out.free 0
 have f1 := H9.out.free 1
 have f2 := H9.out.free 2
 have PP := lH (putN (vs := [.slice x1 len q1, .slice x2 m q2, .slice x3 n q3]) H9.out rfl)
 refine rdH (rs := [10]) (h := coH (fun K9 hK9 => ?_) AllReadyH.nil)
 go_simp
 obtain ⟨WE, hWE⟩ : ∃ W, w3.setCells (w.heap.size + 1) 0 [.slice x1 len q1, .slice x2 m q2, .slice x3 n q3] = W := ⟨_, rfl⟩
 have hWE2 : (((w3.setCell ⟨(w.heap.size + 1), 0, none⟩ (.slice x1 len q1)).setCell ⟨(w.heap.size + 1), 1, none⟩ (.slice x2 m q2)).setCell ⟨(w.heap.size + 1), 2, none⟩ (.slice x3 n q3)) = WE := hWE
 rw [hWE] at PP
 try rw [hWE2]
 obtain ⟨PC, hsz, hbl, hkp⟩ := PP.out
 skip
 refine hK9.out _ _ (HS2.out _ _ hbl J.out) (fun hHeldS => ?_)
 clear hK9 K9 z0 z1 z2 f0 f1 f2
 try simp only [nP]
 refine wpAnyH_done (by kernel_rfl) ?_ _
 go_wp2
 refine bodyPost_ret (by simp [results, Tryz.results11, go_sem, PC.at_ 0 _ rfl, PC.at_ 1 _ rfl, PC.at_ 2 _ rfl]; try rfl) rfl ?_
 have SL := HSL.out _ J.out
 exact ⟨_, rfl, ⟨_, _, _, rfl, nodes_pastS hsz hbl SL RR1.out, pods_pastS hsz hbl SL RR2.out, buds_pastS hsz hbl SL RR3.out⟩, hkp _ _ (Nat.le_succ _) (HKZ.out.trans J.out)⟩
open Go.RowKit
set_option maxRecDepth 100000 in
set_option maxHeartbeats 12800000 in
theorem rsameStR {v u : Value} {s t : Clu} {c : Bool} {w : World} (h : CluR w v s) (g : CluR w u t) (hc : sameSt s t = c) : Calls Tryz.prog 10 #[v, u] w (Say (.bool c) w) := by
 subst hc
 obtain ⟨v1, v2, v3, rfl, ⟨a, cap, rfl, l1, m1, h1⟩, ⟨b, cp, rfl, l2, m2, h2⟩, ⟨d, cb, rfl, l3, m3, h3⟩⟩ := h
 clear l1 l2 l3 m1 m2 m3
 obtain ⟨u1, u2, u3, rfl, ⟨a9, cap9, rfl, l1, m1, g1⟩, ⟨b9, cp9, rfl, l2, m2, g2⟩, ⟨d9, cb9, rfl, l3, m3, g3⟩⟩ := g
 clear l1 l2 l3 m1 m2 m3
 obtain ⟨nl, pl, bl⟩ := s
 obtain ⟨nl9, pl9, bl9⟩ := t
 dsimp only at *
 obtain ⟨len, hllen⟩ : ∃ q, nl.length = q := ⟨_, rfl⟩
 rw [hllen] at h1 ⊢
 obtain ⟨m, hlm⟩ : ∃ q, pl.length = q := ⟨_, rfl⟩
 rw [hlm] at h2 ⊢
 obtain ⟨n, hln⟩ : ∃ q, bl.length = q := ⟨_, rfl⟩
 rw [hln] at h3 ⊢
 obtain ⟨len9, hllen9⟩ : ∃ q, nl9.length = q := ⟨_, rfl⟩
 rw [hllen9] at g1 ⊢
 obtain ⟨m9, hlm9⟩ : ∃ q, pl9.length = q := ⟨_, rfl⟩
 rw [hlm9] at g2 ⊢
 obtain ⟨n9, hln9⟩ : ∃ q, bl9.length = q := ⟨_, rfl⟩
 rw [hln9] at g3 ⊢
 obtain ⟨Z, hZ⟩ : ∃ Z, (w.alloc (.cells #[.slice a len cap, .slice b m cp, .slice d n cb] 35)).alloc (.cells #[.slice a9 len9 cap9, .slice b9 m9 cp9, .slice d9 n9 cb9] 35) = Z := ⟨_, rfl⟩
 have hkz : Kept w Z := by rw [← hZ]; exact kept_two _ _ _
 have HC := lH (show CellsN w.heap.size [.slice a len cap, .slice b m cp, .slice d n cb] Z from freshN w (.slice a len cap) [.slice b m cp, .slice d n cb] 35 Z (by rw [← hZ]; exact kept_alloc _ _))
 have HD := lH (show CellsN (w.heap.size + 1) [.slice a9 len9 cap9, .slice b9 m9 cp9, .slice d9 n9 cb9] Z by
  have dd := freshN (w.alloc (.cells #[.slice a len cap, .slice b m cp, .slice d n cb] 35)) (.slice a9 len9 cap9) [.slice b9 m9 cp9, .slice d9 n9 cb9] 35 Z (by rw [hZ]; exact Kept.refl _)
  rw [World.size_alloc] at dd
  exact dd)
 have Hh1 := lH (h1.kept hkz)
 have HLlen := lH hllen
 have hmlen := h1.2.1
 have Hh2 := lH (h2.kept hkz)
 have HLm := lH hlm
 have hmm := h2.2.1
 have Hh3 := lH (h3.kept hkz)
 have HLn := lH hln
 have hmn := h3.2.1
 have Hg1 := lH (g1.kept hkz)
 have HLlen9 := lH hllen9
 have hmlen9 := g1.2.1
 have Hg2 := lH (g2.kept hkz)
 have HLm9 := lH hlm9
 have hmm9 := g2.2.1
 have Hg3 := lH (g3.kept hkz)
 have HLn9 := lH hln9
 have hmn9 := g3.2.1
 unfold maxLen at hmlen hmm hmn hmlen9 hmm9 hmn9
 have HKZ := lH hkz
 clear h1 h2 h3 g1 g2 g3
 have cq0 := (HC.out.kept (Kept.refl _)).at_ 0 _ rfl
 have cq1 := (HC.out.kept (Kept.refl _)).at_ 1 _ rfl
 have cq2 := (HC.out.kept (Kept.refl _)).at_ 2 _ rfl
 have dq0 := (HD.out.kept (Kept.refl _)).at_ 0 _ rfl
 have dq1 := (HD.out.kept (Kept.refl _)).at_ 1 _ rfl
 have dq2 := (HD.out.kept (Kept.refl _)).at_ 2 _ rfl
 by_cases hA : ¬ len = len9
 · have HX := lH (show sameSt ⟨nl, pl, bl⟩ ⟨nl9, pl9, bl9⟩ = false by unfold sameSt; dsimp only; rw [allSame_len (l := nl) (m := nl9) (by rw [HLlen.out, HLlen9.out]; exact hA)]; simp)
   have eA : ((len : Int) != (len9 : Int)) = true := by simpa using (fun e : (len : Int) = (len9 : Int) => hA (by omega))
   rw [HX.out]
   go_enter Tryz.func10, Tryz.ntmps10
   go_wp2
   try rw [hZ]
   go_ret
   exact ⟨rfl, HKZ.out⟩
 have eA : ((len : Int) != (len9 : Int)) = false := by simpa using (show (len : Int) = (len9 : Int) by omega)
 by_cases hB : ¬ m = m9
 · have HX := lH (show sameSt ⟨nl, pl, bl⟩ ⟨nl9, pl9, bl9⟩ = false by unfold sameSt; dsimp only; rw [allSame_len (l := pl) (m := pl9) (by rw [HLm.out, HLm9.out]; exact hB)]; simp)
   have eB : ((m : Int) != (m9 : Int)) = true := by simpa using (fun e : (m : Int) = (m9 : Int) => hB (by omega))
   rw [HX.out]
   go_enter Tryz.func10, Tryz.ntmps10
   go_wp2
   try rw [hZ]
   go_ret
   exact ⟨rfl, HKZ.out⟩
 have eB : ((m : Int) != (m9 : Int)) = false := by simpa using (show (m : Int) = (m9 : Int) by omega)
 by_cases hD : ¬ n = n9
 · have HX := lH (show sameSt ⟨nl, pl, bl⟩ ⟨nl9, pl9, bl9⟩ = false by unfold sameSt; dsimp only; rw [allSame_len (l := bl) (m := bl9) (by rw [HLn.out, HLn9.out]; exact hD)]; simp)
   have eD : ((n : Int) != (n9 : Int)) = true := by simpa using (fun e : (n : Int) = (n9 : Int) => hD (by omega))
   rw [HX.out]
   go_enter Tryz.func10, Tryz.ntmps10
   go_wp2
   try rw [hZ]
   go_ret
   exact ⟨rfl, HKZ.out⟩
 have eD : ((n : Int) != (n9 : Int)) = false := by simpa using (show (n : Int) = (n9 : Int) by omega)
 have HV := lH (show sameSt ⟨nl, pl, bl⟩ ⟨nl9, pl9, bl9⟩ = (allSame sameN nl nl9 && (allSame samePd pl pl9 && allSame sameBd bl bl9)) from rfl)
 rw [HV.out]
 go_enter Tryz.func10, Tryz.ntmps10
 go_wp2_with fail
 try rw [hZ]
 clear hZ
 go_loopw [5] (fun i wr => ∃ k : Nat, k ≤ len ∧ i = .int .i64 k ∧ allSame sameN (nl.drop k) (nl9.drop k) = allSame sameN nl nl9 ∧ Kept Z wr) (fun i _ => len - (intOf i).toNat)
 case atStart => exact ⟨0, Nat.zero_le _, rfl, rfl, (Kept.refl _)⟩
 case round =>
  clear cq0 dq0 cq1 dq1 cq2 dq2
  obtain ⟨k, hk, rfl, hrest, hK⟩ := hrel
  have HS := lH hrest
  have KN := lH hK
  have cq0 := (HC.out.kept hK).at_ 0 _ rfl
  have cq1 := (HC.out.kept hK).at_ 1 _ rfl
  have cq2 := (HC.out.kept hK).at_ 2 _ rfl
  have dq0 := (HD.out.kept hK).at_ 0 _ rfl
  have dq1 := (HD.out.kept hK).at_ 1 _ rfl
  have dq2 := (HD.out.kept hK).at_ 2 _ rfl
  by_cases hlt : k < len
  · obtain ⟨b8, off, rfl⟩ := Hh1.out.form.resolve_left (by omega)
    obtain ⟨f8, off9, rfl⟩ := Hg1.out.form.resolve_left (by omega)
    obtain ⟨nn, a1, m1, c1, a2, m2, c2, a3, m3, c3, hn, hd, hb, p0, p1, p2, p3, p4, hat⟩ := (Hh1.out.kept hK).at_ hlt
    obtain ⟨k9, x1, y1, z1, x2, y2, z2, x3, y3, z3, hn9, hd9, hb9, q0, q1, q2, q3, q4, hat9⟩ := (Hg1.out.kept hK).at_ (show k < len9 by omega)
    have HDD := lH hd
    have HD9 := lH hd9
    obtain ⟨t, ht⟩ : ∃ t, sameN nn k9 = t := ⟨_, rfl⟩
    have HT := lH ht
    have hkk : (k : Int) < (len : Int) := by omega
    have hkk9 : (k : Int) < (len9 : Int) := by omega
    have hk0 : ¬ (k : Int) < 0 := by omega
    have HF := lH (show ∀ W, Kept wr W → W.cell? ⟨w.heap.size, 0, none⟩ = some (.slice (some ⟨b8, off, none⟩) len cap) ∧ W.cell? ⟨w.heap.size + 1, 0, none⟩ = some (.slice (some ⟨f8, off9, none⟩) len9 cap9) ∧ W.cell? ⟨b8, off + k * 5, none⟩ = some (.string nn.name) ∧ W.cell? ⟨b8, off + k * 5 + 1, none⟩ = some (.slice a1 m1 c1) ∧ W.cell? ⟨b8, off + k * 5 + 2, none⟩ = some (.slice a2 m2 c2) ∧ W.cell? ⟨b8, off + k * 5 + 3, none⟩ = some (.slice a3 m3 c3) ∧ W.cell? ⟨b8, off + k * 5 + 4, none⟩ = some (.bool nn.cordon) ∧ W.cell? ⟨f8, off9 + k * 5, none⟩ = some (.string k9.name) ∧ W.cell? ⟨f8, off9 + k * 5 + 1, none⟩ = some (.slice x1 y1 z1) ∧ W.cell? ⟨f8, off9 + k * 5 + 2, none⟩ = some (.slice x2 y2 z2) ∧ W.cell? ⟨f8, off9 + k * 5 + 3, none⟩ = some (.slice x3 y3 z3) ∧ W.cell? ⟨f8, off9 + k * 5 + 4, none⟩ = some (.bool k9.cordon) from fun W kk => ⟨cell_later kk cq0, cell_later kk dq0, cell_later kk p0, cell_later kk p1, cell_later kk p2, cell_later kk p3, cell_later kk p4, cell_later kk q0, cell_later kk q1, cell_later kk q2, cell_later kk q3, cell_later kk q4⟩)
    have HCC := lH (fun W (kk : Kept wr W) => show Calls Tryz.prog 41 #[NodV nn (.slice a1 m1 c1) (.slice a2 m2 c2) (.slice a3 m3 c3), NodV k9 (.slice x1 y1 z1) (.slice x2 y2 z2) (.slice x3 y3 z3)] W (Say (.bool t) W) from rsameNodR ⟨_, _, _, rfl, hat.kept kk⟩ ⟨_, _, _, rfl, hat9.kept kk⟩ ht)
    unfold NodV at HCC
    clear hrest hK hat hat9 hn hn9 hd hd9 ht p0 q0 p1 q1 p2 q2 p3 q3 p4 q4
    go_wp2_with fail
    refine wp_region_held_drew (S := fun W => W.cell? ⟨w.heap.size, 0, none⟩ = some (.slice (some ⟨b8, off, none⟩) len cap) ∧ W.cell? ⟨w.heap.size + 1, 0, none⟩ = some (.slice (some ⟨f8, off9, none⟩) len9 cap9) ∧ W.cell? ⟨b8, off + k * 5, none⟩ = some (.string nn.name) ∧ W.cell? ⟨b8, off + k * 5 + 1, none⟩ = some (.slice a1 m1 c1) ∧ W.cell? ⟨b8, off + k * 5 + 2, none⟩ = some (.slice a2 m2 c2) ∧ W.cell? ⟨b8, off + k * 5 + 3, none⟩ = some (.slice a3 m3 c3) ∧ W.cell? ⟨b8, off + k * 5 + 4, none⟩ = some (.bool nn.cordon) ∧ W.cell? ⟨f8, off9 + k * 5, none⟩ = some (.string k9.name) ∧ W.cell? ⟨f8, off9 + k * 5 + 1, none⟩ = some (.slice x1 y1 z1) ∧ W.cell? ⟨f8, off9 + k * 5 + 2, none⟩ = some (.slice x2 y2 z2) ∧ W.cell? ⟨f8, off9 + k * 5 + 3, none⟩ = some (.slice x3 y3 z3) ∧ W.cell? ⟨f8, off9 + k * 5 + 4, none⟩ = some (.bool k9.cordon)) (by kernel_rfl) (HF.out _ (Kept.drew _)) (fun hHeld => ?_)
    refine tkH 0 (v := ?_) (y := Or.inl ⟨by rfl, (by rintro W ⟨o0, o1, o2, o3, o4, o5, o6, o7, o8, o9, o10, o11⟩; go_simp <;> with_reducible rfl)⟩) (h := ?_)
    try simp only [nP]
    refine tkH 1 (v := ?_) (y := Or.inl ⟨by rfl, (by rintro W ⟨o0, o1, o2, o3, o4, o5, o6, o7, o8, o9, o10, o11⟩; go_simp <;> with_reducible rfl)⟩) (h := ?_)
    try simp only [nP]
    refine tkH 2 (v := ?_) (y := Or.inl ⟨by rfl, (by rintro W ⟨o0, o1, o2, o3, o4, o5, o6, o7, o8, o9, o10, o11⟩; go_simp <;> with_reducible rfl)⟩) (h := ?_)
    try simp only [nP]
    refine tkH 3 (v := ?_) (y := Or.inl ⟨by rfl, (by rintro W ⟨o0, o1, o2, o3, o4, o5, o6, o7, o8, o9, o10, o11⟩; go_simp <;> with_reducible rfl)⟩) (h := ?_)
    try simp only [nP]
    refine tkH 4 (v := ?_) (y := Or.inl ⟨by rfl, (by rintro W ⟨o0, o1, o2, o3, o4, o5, o6, o7, o8, o9, o10, o11⟩; go_simp <;> with_reducible rfl)⟩) (h := ?_)
    try simp only [nP]
    refine tkH 5 (v := ?_) (y := Or.inl ⟨by rfl, (by rintro W ⟨o0, o1, o2, o3, o4, o5, o6, o7, o8, o9, o10, o11⟩; go_simp <;> with_reducible rfl)⟩) (h := ?_)
    try simp only [nP]
    refine tkH 6 (v := ?_) (y := Or.inl ⟨by rfl, (by rintro W ⟨o0, o1, o2, o3, o4, o5, o6, o7, o8, o9, o10, o11⟩; go_simp <;> with_reducible rfl)⟩) (h := ?_)
    try simp only [nP]
    refine tkH 7 (v := ?_) (y := Or.inl ⟨by rfl, (by rintro W ⟨o0, o1, o2, o3, o4, o5, o6, o7, o8, o9, o10, o11⟩; go_simp <;> with_reducible rfl)⟩) (h := ?_)
    try simp only [nP]
    refine tkH 8 (v := ?_) (y := Or.inl ⟨by rfl, (by rintro W ⟨o0, o1, o2, o3, o4, o5, o6, o7, o8, o9, o10, o11⟩; go_simp <;> with_reducible rfl)⟩) (h := ?_)
    try simp only [nP]
    refine tkH 9 (v := ?_) (y := Or.inl ⟨by rfl, (by rintro W ⟨o0, o1, o2, o3, o4, o5, o6, o7, o8, o9, o10, o11⟩; go_simp <;> with_reducible rfl)⟩) (h := ?_)
    try simp only [nP]
    refine rdH (rs := [10]) (h := coH (fun K9 hK9 => ?_) AllReadyH.nil)
    go_simp
    refine (HCC.out _ (Kept.drew _)).mono ?_
    rintro e w8 ⟨rfl, kk⟩
    have J := lH ((Kept.drew wr).trans kk)
    clear kk
    refine hK9.out _ _ (HF.out _ J.out) (fun hHeld1 => ?_)
    clear hK9 K9
    try simp only [nP]
    refine tkH 11 (v := ?_) (y := Or.inl ⟨by rfl, (by rintro W ⟨o0, o1, o2, o3, o4, o5, o6, o7, o8, o9, o10, o11⟩; go_simp <;> with_reducible rfl)⟩) (h := ?_)
    try simp only [nP]
    refine wpAnyH_done (by kernel_rfl) ?_ _
    have KW := lH (KN.out.trans J.out)
    clear cq0 dq0 cq1 dq1 cq2 dq2
    cases t with
    | false =>
     have HX := lH (show allSame sameN nl nl9 = false by rw [← HS.out, HDD.out, HD9.out, allSame, HT.out]; rfl)
     go_wp2
     go_ret
     exact ⟨by rw [HX.out]; simp, HKZ.out.trans KW.out⟩
    | true =>
     have HX := lH (show allSame sameN (nl.drop (k + 1)) (nl9.drop (k + 1)) = allSame sameN nl nl9 by rw [← HS.out, HDD.out, HD9.out, allSame, HT.out]; rfl)
     go_wp2
     go_roundw
     case rel => exact ⟨k + 1, by omega, by go_num, HX.out, KW.out⟩
     case measure => simp [intOf]; omega
  · have EKN := lH (show allSame sameN nl nl9 = true by rw [← hrest, List.drop_of_length_le (by rw [HLlen.out]; omega), List.drop_of_length_le (by rw [HLlen9.out]; omega)]; rfl)
    have hkk : ¬ (k : Int) < (len : Int) := by omega
    clear hrest hK
    go_wp2_with fail
    go_loopw [6] (fun i wr => ∃ k : Nat, k ≤ m ∧ i = .int .i64 k ∧ allSame samePd (pl.drop k) (pl9.drop k) = allSame samePd pl pl9 ∧ Kept Z wr) (fun i _ => m - (intOf i).toNat)
    case atStart => exact ⟨0, Nat.zero_le _, rfl, rfl, KN.out⟩
    case round =>
     clear cq0 dq0 cq1 dq1 cq2 dq2
     obtain ⟨k, hk, rfl, hrest, hK⟩ := hrel
     have HS := lH hrest
     have KP := lH hK
     have cq0 := (HC.out.kept hK).at_ 0 _ rfl
     have cq1 := (HC.out.kept hK).at_ 1 _ rfl
     have cq2 := (HC.out.kept hK).at_ 2 _ rfl
     have dq0 := (HD.out.kept hK).at_ 0 _ rfl
     have dq1 := (HD.out.kept hK).at_ 1 _ rfl
     have dq2 := (HD.out.kept hK).at_ 2 _ rfl
     by_cases hlt : k < m
     · obtain ⟨b8, off, rfl⟩ := Hh2.out.form.resolve_left (by omega)
       obtain ⟨f8, off9, rfl⟩ := Hg2.out.form.resolve_left (by omega)
       obtain ⟨nn, a1, m1, c1, a2, m2, c2, a3, m3, c3, a4, m4, c4, hn, hd, hb, p0, p1, p2, p3, p4, p5, p6, p7, p8, p9, p10, hat⟩ := (Hh2.out.kept hK).at_ hlt
       obtain ⟨k9, x1, y1, z1, x2, y2, z2, x3, y3, z3, x4, y4, z4, hn9, hd9, hb9, q0, q1, q2, q3, q4, q5, q6, q7, q8, q9, q10, hat9⟩ := (Hg2.out.kept hK).at_ (show k < m9 by omega)
       have HDD := lH hd
       have HD9 := lH hd9
       obtain ⟨t, ht⟩ : ∃ t, samePd nn k9 = t := ⟨_, rfl⟩
       have HT := lH ht
       have hkk : (k : Int) < (m : Int) := by omega
       have hkk9 : (k : Int) < (m9 : Int) := by omega
       have hk0 : ¬ (k : Int) < 0 := by omega
       have HF := lH (show ∀ W, Kept wr W → W.cell? ⟨w.heap.size, 1, none⟩ = some (.slice (some ⟨b8, off, none⟩) m cp) ∧ W.cell? ⟨w.heap.size + 1, 1, none⟩ = some (.slice (some ⟨f8, off9, none⟩) m9 cp9) ∧ W.cell? ⟨b8, off + k * 11, none⟩ = some (.string nn.name) ∧ W.cell? ⟨b8, off + k * 11 + 1, none⟩ = some (.string nn.owner) ∧ W.cell? ⟨b8, off + k * 11 + 2, none⟩ = some (.int .i64 nn.prio) ∧ W.cell? ⟨b8, off + k * 11 + 3, none⟩ = some (.slice a1 m1 c1) ∧ W.cell? ⟨b8, off + k * 11 + 4, none⟩ = some (.slice a2 m2 c2) ∧ W.cell? ⟨b8, off + k * 11 + 5, none⟩ = some (.slice a3 m3 c3) ∧ W.cell? ⟨b8, off + k * 11 + 6, none⟩ = some (.slice a4 m4 c4) ∧ W.cell? ⟨b8, off + k * 11 + 7, none⟩ = some (.string nn.key) ∧ W.cell? ⟨b8, off + k * 11 + 8, none⟩ = some (.int .i64 nn.most) ∧ W.cell? ⟨b8, off + k * 11 + 9, none⟩ = some (.string nn.node) ∧ W.cell? ⟨b8, off + k * 11 + 10, none⟩ = some (.bool nn.hold) ∧ W.cell? ⟨f8, off9 + k * 11, none⟩ = some (.string k9.name) ∧ W.cell? ⟨f8, off9 + k * 11 + 1, none⟩ = some (.string k9.owner) ∧ W.cell? ⟨f8, off9 + k * 11 + 2, none⟩ = some (.int .i64 k9.prio) ∧ W.cell? ⟨f8, off9 + k * 11 + 3, none⟩ = some (.slice x1 y1 z1) ∧ W.cell? ⟨f8, off9 + k * 11 + 4, none⟩ = some (.slice x2 y2 z2) ∧ W.cell? ⟨f8, off9 + k * 11 + 5, none⟩ = some (.slice x3 y3 z3) ∧ W.cell? ⟨f8, off9 + k * 11 + 6, none⟩ = some (.slice x4 y4 z4) ∧ W.cell? ⟨f8, off9 + k * 11 + 7, none⟩ = some (.string k9.key) ∧ W.cell? ⟨f8, off9 + k * 11 + 8, none⟩ = some (.int .i64 k9.most) ∧ W.cell? ⟨f8, off9 + k * 11 + 9, none⟩ = some (.string k9.node) ∧ W.cell? ⟨f8, off9 + k * 11 + 10, none⟩ = some (.bool k9.hold) from fun W kk => ⟨cell_later kk cq1, cell_later kk dq1, cell_later kk p0, cell_later kk p1, cell_later kk p2, cell_later kk p3, cell_later kk p4, cell_later kk p5, cell_later kk p6, cell_later kk p7, cell_later kk p8, cell_later kk p9, cell_later kk p10, cell_later kk q0, cell_later kk q1, cell_later kk q2, cell_later kk q3, cell_later kk q4, cell_later kk q5, cell_later kk q6, cell_later kk q7, cell_later kk q8, cell_later kk q9, cell_later kk q10⟩)
       have HCC := lH (fun W (kk : Kept wr W) => show Calls Tryz.prog 42 #[PodV nn (.slice a1 m1 c1) (.slice a2 m2 c2) (.slice a3 m3 c3) (.slice a4 m4 c4), PodV k9 (.slice x1 y1 z1) (.slice x2 y2 z2) (.slice x3 y3 z3) (.slice x4 y4 z4)] W (Say (.bool t) W) from rsamePodR ⟨_, _, _, _, rfl, hat.kept kk⟩ ⟨_, _, _, _, rfl, hat9.kept kk⟩ ht)
       unfold PodV at HCC
       clear hrest hK hat hat9 hn hn9 hd hd9 ht p0 q0 p1 q1 p2 q2 p3 q3 p4 q4 p5 q5 p6 q6 p7 q7 p8 q8 p9 q9 p10 q10
       go_wp2_with fail
       refine wp_region_held_drew (S := fun W => W.cell? ⟨w.heap.size, 1, none⟩ = some (.slice (some ⟨b8, off, none⟩) m cp) ∧ W.cell? ⟨w.heap.size + 1, 1, none⟩ = some (.slice (some ⟨f8, off9, none⟩) m9 cp9) ∧ W.cell? ⟨b8, off + k * 11, none⟩ = some (.string nn.name) ∧ W.cell? ⟨b8, off + k * 11 + 1, none⟩ = some (.string nn.owner) ∧ W.cell? ⟨b8, off + k * 11 + 2, none⟩ = some (.int .i64 nn.prio) ∧ W.cell? ⟨b8, off + k * 11 + 3, none⟩ = some (.slice a1 m1 c1) ∧ W.cell? ⟨b8, off + k * 11 + 4, none⟩ = some (.slice a2 m2 c2) ∧ W.cell? ⟨b8, off + k * 11 + 5, none⟩ = some (.slice a3 m3 c3) ∧ W.cell? ⟨b8, off + k * 11 + 6, none⟩ = some (.slice a4 m4 c4) ∧ W.cell? ⟨b8, off + k * 11 + 7, none⟩ = some (.string nn.key) ∧ W.cell? ⟨b8, off + k * 11 + 8, none⟩ = some (.int .i64 nn.most) ∧ W.cell? ⟨b8, off + k * 11 + 9, none⟩ = some (.string nn.node) ∧ W.cell? ⟨b8, off + k * 11 + 10, none⟩ = some (.bool nn.hold) ∧ W.cell? ⟨f8, off9 + k * 11, none⟩ = some (.string k9.name) ∧ W.cell? ⟨f8, off9 + k * 11 + 1, none⟩ = some (.string k9.owner) ∧ W.cell? ⟨f8, off9 + k * 11 + 2, none⟩ = some (.int .i64 k9.prio) ∧ W.cell? ⟨f8, off9 + k * 11 + 3, none⟩ = some (.slice x1 y1 z1) ∧ W.cell? ⟨f8, off9 + k * 11 + 4, none⟩ = some (.slice x2 y2 z2) ∧ W.cell? ⟨f8, off9 + k * 11 + 5, none⟩ = some (.slice x3 y3 z3) ∧ W.cell? ⟨f8, off9 + k * 11 + 6, none⟩ = some (.slice x4 y4 z4) ∧ W.cell? ⟨f8, off9 + k * 11 + 7, none⟩ = some (.string k9.key) ∧ W.cell? ⟨f8, off9 + k * 11 + 8, none⟩ = some (.int .i64 k9.most) ∧ W.cell? ⟨f8, off9 + k * 11 + 9, none⟩ = some (.string k9.node) ∧ W.cell? ⟨f8, off9 + k * 11 + 10, none⟩ = some (.bool k9.hold)) (by kernel_rfl) (HF.out _ (Kept.drew _)) (fun hHeld => ?_)
       refine tkH 0 (v := ?_) (y := Or.inl ⟨by rfl, (by rintro W ⟨o0, o1, o2, o3, o4, o5, o6, o7, o8, o9, o10, o11, o12, o13, o14, o15, o16, o17, o18, o19, o20, o21, o22, o23⟩; go_simp <;> with_reducible rfl)⟩) (h := ?_)
       try simp only [nP]
       refine tkH 1 (v := ?_) (y := Or.inl ⟨by rfl, (by rintro W ⟨o0, o1, o2, o3, o4, o5, o6, o7, o8, o9, o10, o11, o12, o13, o14, o15, o16, o17, o18, o19, o20, o21, o22, o23⟩; go_simp <;> with_reducible rfl)⟩) (h := ?_)
       try simp only [nP]
       refine tkH 2 (v := ?_) (y := Or.inl ⟨by rfl, (by rintro W ⟨o0, o1, o2, o3, o4, o5, o6, o7, o8, o9, o10, o11, o12, o13, o14, o15, o16, o17, o18, o19, o20, o21, o22, o23⟩; go_simp <;> with_reducible rfl)⟩) (h := ?_)
       try simp only [nP]
       refine tkH 3 (v := ?_) (y := Or.inl ⟨by rfl, (by rintro W ⟨o0, o1, o2, o3, o4, o5, o6, o7, o8, o9, o10, o11, o12, o13, o14, o15, o16, o17, o18, o19, o20, o21, o22, o23⟩; go_simp <;> with_reducible rfl)⟩) (h := ?_)
       try simp only [nP]
       refine tkH 4 (v := ?_) (y := Or.inl ⟨by rfl, (by rintro W ⟨o0, o1, o2, o3, o4, o5, o6, o7, o8, o9, o10, o11, o12, o13, o14, o15, o16, o17, o18, o19, o20, o21, o22, o23⟩; go_simp <;> with_reducible rfl)⟩) (h := ?_)
       try simp only [nP]
       refine tkH 5 (v := ?_) (y := Or.inl ⟨by rfl, (by rintro W ⟨o0, o1, o2, o3, o4, o5, o6, o7, o8, o9, o10, o11, o12, o13, o14, o15, o16, o17, o18, o19, o20, o21, o22, o23⟩; go_simp <;> with_reducible rfl)⟩) (h := ?_)
       try simp only [nP]
       refine tkH 6 (v := ?_) (y := Or.inl ⟨by rfl, (by rintro W ⟨o0, o1, o2, o3, o4, o5, o6, o7, o8, o9, o10, o11, o12, o13, o14, o15, o16, o17, o18, o19, o20, o21, o22, o23⟩; go_simp <;> with_reducible rfl)⟩) (h := ?_)
       try simp only [nP]
       refine tkH 7 (v := ?_) (y := Or.inl ⟨by rfl, (by rintro W ⟨o0, o1, o2, o3, o4, o5, o6, o7, o8, o9, o10, o11, o12, o13, o14, o15, o16, o17, o18, o19, o20, o21, o22, o23⟩; go_simp <;> with_reducible rfl)⟩) (h := ?_)
       try simp only [nP]
       refine tkH 8 (v := ?_) (y := Or.inl ⟨by rfl, (by rintro W ⟨o0, o1, o2, o3, o4, o5, o6, o7, o8, o9, o10, o11, o12, o13, o14, o15, o16, o17, o18, o19, o20, o21, o22, o23⟩; go_simp <;> with_reducible rfl)⟩) (h := ?_)
       try simp only [nP]
       refine tkH 9 (v := ?_) (y := Or.inl ⟨by rfl, (by rintro W ⟨o0, o1, o2, o3, o4, o5, o6, o7, o8, o9, o10, o11, o12, o13, o14, o15, o16, o17, o18, o19, o20, o21, o22, o23⟩; go_simp <;> with_reducible rfl)⟩) (h := ?_)
       try simp only [nP]
       refine rdH (rs := [10]) (h := coH (fun K9 hK9 => ?_) AllReadyH.nil)
       go_simp
       refine (HCC.out _ (Kept.drew _)).mono ?_
       rintro e w8 ⟨rfl, kk⟩
       have J := lH ((Kept.drew wr).trans kk)
       clear kk
       refine hK9.out _ _ (HF.out _ J.out) (fun hHeld1 => ?_)
       clear hK9 K9
       try simp only [nP]
       refine tkH 11 (v := ?_) (y := Or.inl ⟨by rfl, (by rintro W ⟨o0, o1, o2, o3, o4, o5, o6, o7, o8, o9, o10, o11, o12, o13, o14, o15, o16, o17, o18, o19, o20, o21, o22, o23⟩; go_simp <;> with_reducible rfl)⟩) (h := ?_)
       try simp only [nP]
       refine wpAnyH_done (by kernel_rfl) ?_ _
       have KW := lH (KP.out.trans J.out)
       clear cq0 dq0 cq1 dq1 cq2 dq2
       cases t with
       | false =>
        have HX := lH (show allSame samePd pl pl9 = false by rw [← HS.out, HDD.out, HD9.out, allSame, HT.out]; rfl)
        go_wp2
        go_ret
        exact ⟨by rw [HX.out]; simp, HKZ.out.trans KW.out⟩
       | true =>
        have HX := lH (show allSame samePd (pl.drop (k + 1)) (pl9.drop (k + 1)) = allSame samePd pl pl9 by rw [← HS.out, HDD.out, HD9.out, allSame, HT.out]; rfl)
        go_wp2
        go_roundw
        case rel => exact ⟨k + 1, by omega, by go_num, HX.out, KW.out⟩
        case measure => simp [intOf]; omega
     · have EKP := lH (show allSame samePd pl pl9 = true by rw [← hrest, List.drop_of_length_le (by rw [HLm.out]; omega), List.drop_of_length_le (by rw [HLm9.out]; omega)]; rfl)
       have hkk : ¬ (k : Int) < (m : Int) := by omega
       clear hrest hK
       go_wp2_with fail
       go_loopw [7] (fun i wr => ∃ k : Nat, k ≤ n ∧ i = .int .i64 k ∧ allSame sameBd (bl.drop k) (bl9.drop k) = allSame sameBd bl bl9 ∧ Kept Z wr) (fun i _ => n - (intOf i).toNat)
       case atStart => exact ⟨0, Nat.zero_le _, rfl, rfl, KP.out⟩
       case round =>
        clear cq0 dq0 cq1 dq1 cq2 dq2
        obtain ⟨k, hk, rfl, hrest, hK⟩ := hrel
        have HS := lH hrest
        have KB := lH hK
        have cq0 := (HC.out.kept hK).at_ 0 _ rfl
        have cq1 := (HC.out.kept hK).at_ 1 _ rfl
        have cq2 := (HC.out.kept hK).at_ 2 _ rfl
        have dq0 := (HD.out.kept hK).at_ 0 _ rfl
        have dq1 := (HD.out.kept hK).at_ 1 _ rfl
        have dq2 := (HD.out.kept hK).at_ 2 _ rfl
        by_cases hlt : k < n
        · obtain ⟨b8, off, rfl⟩ := Hh3.out.form.resolve_left (by omega)
          obtain ⟨f8, off9, rfl⟩ := Hg3.out.form.resolve_left (by omega)
          obtain ⟨nn, a1, m1, c1, hn, hd, hb, p0, p1, p2, hat⟩ := (Hh3.out.kept hK).at_ hlt
          obtain ⟨k9, x1, y1, z1, hn9, hd9, hb9, q0, q1, q2, hat9⟩ := (Hg3.out.kept hK).at_ (show k < n9 by omega)
          have HDD := lH hd
          have HD9 := lH hd9
          obtain ⟨t, ht⟩ : ∃ t, sameBd nn k9 = t := ⟨_, rfl⟩
          have HT := lH ht
          have hkk : (k : Int) < (n : Int) := by omega
          have hkk9 : (k : Int) < (n9 : Int) := by omega
          have hk0 : ¬ (k : Int) < 0 := by omega
          have HF := lH (show ∀ W, Kept wr W → W.cell? ⟨w.heap.size, 2, none⟩ = some (.slice (some ⟨b8, off, none⟩) n cb) ∧ W.cell? ⟨w.heap.size + 1, 2, none⟩ = some (.slice (some ⟨f8, off9, none⟩) n9 cb9) ∧ W.cell? ⟨b8, off + k * 3, none⟩ = some (.string nn.name) ∧ W.cell? ⟨b8, off + k * 3 + 1, none⟩ = some (.slice a1 m1 c1) ∧ W.cell? ⟨b8, off + k * 3 + 2, none⟩ = some (.int .i64 nn.floor) ∧ W.cell? ⟨f8, off9 + k * 3, none⟩ = some (.string k9.name) ∧ W.cell? ⟨f8, off9 + k * 3 + 1, none⟩ = some (.slice x1 y1 z1) ∧ W.cell? ⟨f8, off9 + k * 3 + 2, none⟩ = some (.int .i64 k9.floor) from fun W kk => ⟨cell_later kk cq2, cell_later kk dq2, cell_later kk p0, cell_later kk p1, cell_later kk p2, cell_later kk q0, cell_later kk q1, cell_later kk q2⟩)
          obtain ⟨e1, he1⟩ : ∃ e, eqS nn.name k9.name = e := ⟨_, rfl⟩
          have he1' : (nn.name.toList == k9.name.toList) = e1 := he1
          have he1n : (nn.name.toList != k9.name.toList) = !e1 := by rw [bne, he1']
          obtain ⟨e2, he2⟩ : ∃ e, sameT nn.sel k9.sel = e := ⟨_, rfl⟩
          obtain ⟨e3, he3⟩ : ∃ e, decide (nn.floor = k9.floor) = e := ⟨_, rfl⟩
          have he3' : (nn.floor == k9.floor) = e3 := he3
          have he3n : (nn.floor != k9.floor) = !e3 := by rw [bne, he3']
          have HE := lH (show t = (e1 && (e2 && e3)) by rw [← ht]; unfold sameBd; rw [he1, he2, he3])
          have HCC := lH (fun W (kk : Kept wr W) => rsameTR (hat.sel.kept kk) (hat9.sel.kept kk) he2)
          clear hrest hK hat hat9 hn hn9 hd hd9 ht he1 he2 he3 p0 p1 p2 q0 q1 q2
          cases e1 with
          | false =>
           go_wp2_with fail
           refine wp_region_held_drew (S := fun W => W.cell? ⟨w.heap.size, 2, none⟩ = some (.slice (some ⟨b8, off, none⟩) n cb) ∧ W.cell? ⟨w.heap.size + 1, 2, none⟩ = some (.slice (some ⟨f8, off9, none⟩) n9 cb9) ∧ W.cell? ⟨b8, off + k * 3, none⟩ = some (.string nn.name) ∧ W.cell? ⟨b8, off + k * 3 + 1, none⟩ = some (.slice a1 m1 c1) ∧ W.cell? ⟨b8, off + k * 3 + 2, none⟩ = some (.int .i64 nn.floor) ∧ W.cell? ⟨f8, off9 + k * 3, none⟩ = some (.string k9.name) ∧ W.cell? ⟨f8, off9 + k * 3 + 1, none⟩ = some (.slice x1 y1 z1) ∧ W.cell? ⟨f8, off9 + k * 3 + 2, none⟩ = some (.int .i64 k9.floor)) (by kernel_rfl) (HF.out _ (Kept.drew _)) (fun hHeld => ?_)
           refine tkH 0 (v := ?_) (y := Or.inl ⟨by rfl, (by rintro W ⟨o0, o1, o2, o3, o4, o5, o6, o7⟩; go_simp <;> with_reducible rfl)⟩) (h := ?_)
           try simp only [nP]
           refine tkH 1 (v := ?_) (y := Or.inl ⟨by rfl, (by rintro W ⟨o0, o1, o2, o3, o4, o5, o6, o7⟩; go_simp <;> with_reducible rfl)⟩) (h := ?_)
           try simp only [nP]
           refine tkH 2 (v := ?_) (y := Or.inl ⟨by rfl, (by rintro W ⟨o0, o1, o2, o3, o4, o5, o6, o7⟩; go_simp <;> with_reducible rfl)⟩) (h := ?_)
           try simp only [nP]
           refine tkH 3 (v := ?_) (y := Or.inl ⟨by rfl, (by rintro W ⟨o0, o1, o2, o3, o4, o5, o6, o7⟩; go_simp <;> with_reducible rfl)⟩) (h := ?_)
           try simp only [nP]
           refine tkH 4 (v := ?_) (y := Or.inl ⟨by rfl, (by rintro W ⟨o0, o1, o2, o3, o4, o5, o6, o7⟩; go_simp <;> with_reducible rfl)⟩) (h := ?_)
           try simp only [nP]
           refine tkH 5 (v := ?_) (y := Or.inl ⟨by rfl, (by rintro W ⟨o0, o1, o2, o3, o4, o5, o6, o7⟩; go_simp <;> with_reducible rfl)⟩) (h := ?_)
           try simp only [nP]
           refine tkH 6 (v := ?_) (y := Or.inl ⟨by rfl, (by rintro W ⟨o0, o1, o2, o3, o4, o5, o6, o7⟩; go_simp <;> with_reducible rfl)⟩) (h := ?_)
           try simp only [nP]
           refine tkH 7 (v := ?_) (y := Or.inl ⟨by rfl, (by rintro W ⟨o0, o1, o2, o3, o4, o5, o6, o7⟩; go_simp <;> with_reducible rfl)⟩) (h := ?_)
           try simp only [nP]
           refine tkH 8 (v := ?_) (y := Or.inl ⟨by rfl, (by rintro W ⟨o0, o1, o2, o3, o4, o5, o6, o7⟩; go_simp <;> with_reducible rfl)⟩) (h := ?_)
           try simp only [nP]
           refine tkH 9 (v := ?_) (y := Or.inl ⟨by rfl, (by rintro W ⟨o0, o1, o2, o3, o4, o5, o6, o7⟩; go_simp <;> with_reducible rfl)⟩) (h := ?_)
           try simp only [nP]
           refine tkH 10 (v := ?_) (y := Or.inl ⟨by rfl, (by rintro W ⟨o0, o1, o2, o3, o4, o5, o6, o7⟩; go_simp <;> with_reducible rfl)⟩) (h := ?_)
           try simp only [nP]
           refine tkH 11 (v := ?_) (y := Or.inl ⟨by rfl, (by rintro W ⟨o0, o1, o2, o3, o4, o5, o6, o7⟩; go_simp <;> with_reducible rfl)⟩) (h := ?_)
           try simp only [nP]
           refine tkH 12 (v := ?_) (y := Or.inl ⟨by rfl, (by rintro W ⟨o0, o1, o2, o3, o4, o5, o6, o7⟩; go_simp <;> with_reducible rfl)⟩) (h := ?_)
           try simp only [nP]
           refine tkH 13 (v := ?_) (y := Or.inl ⟨by rfl, (by rintro W ⟨o0, o1, o2, o3, o4, o5, o6, o7⟩; go_simp <;> with_reducible rfl)⟩) (h := ?_)
           try simp only [nP]
           refine tkH 14 (v := undef) (y := Or.inr ⟨by rfl, rfl⟩) (h := ?_)
           try simp only [nP]
           refine tkH 15 (v := undef) (y := Or.inr ⟨by rfl, rfl⟩) (h := ?_)
           try simp only [nP]
           refine tkH 16 (v := undef) (y := Or.inr ⟨by rfl, rfl⟩) (h := ?_)
           try simp only [nP]
           refine tkH 17 (v := undef) (y := Or.inr ⟨by rfl, rfl⟩) (h := ?_)
           try simp only [nP]
           refine tkH 18 (v := undef) (y := Or.inr ⟨by rfl, rfl⟩) (h := ?_)
           try simp only [nP]
           refine tkH 19 (v := undef) (y := Or.inr ⟨by rfl, rfl⟩) (h := ?_)
           try simp only [nP]
           refine tkH 20 (v := undef) (y := Or.inr ⟨by rfl, rfl⟩) (h := ?_)
           try simp only [nP]
           refine tkH 21 (v := undef) (y := Or.inr ⟨by rfl, rfl⟩) (h := ?_)
           try simp only [nP]
           refine tkH 22 (v := undef) (y := Or.inr ⟨by rfl, rfl⟩) (h := ?_)
           try simp only [nP]
           refine tkH 23 (v := undef) (y := Or.inr ⟨by rfl, rfl⟩) (h := ?_)
           try simp only [nP]
           refine tkH 24 (v := undef) (y := Or.inr ⟨by rfl, rfl⟩) (h := ?_)
           try simp only [nP]
           refine tkH 25 (v := undef) (y := Or.inr ⟨by rfl, rfl⟩) (h := ?_)
           try simp only [nP]
           refine tkH 26 (v := undef) (y := Or.inr ⟨by rfl, rfl⟩) (h := ?_)
           try simp only [nP]
           refine tkH 27 (v := ?_) (y := Or.inl ⟨by rfl, (by rintro W ⟨o0, o1, o2, o3, o4, o5, o6, o7⟩; go_simp <;> with_reducible rfl)⟩) (h := ?_)
           try simp only [nP]
           refine tkH 28 (v := ?_) (y := Or.inl ⟨by rfl, (by rintro W ⟨o0, o1, o2, o3, o4, o5, o6, o7⟩; go_simp <;> with_reducible rfl)⟩) (h := ?_)
           try simp only [nP]
           refine tkH 29 (v := undef) (y := Or.inr ⟨by rfl, rfl⟩) (h := ?_)
           try simp only [nP]
           refine tkH 30 (v := undef) (y := Or.inr ⟨by rfl, rfl⟩) (h := ?_)
           try simp only [nP]
           refine tkH 31 (v := undef) (y := Or.inr ⟨by rfl, rfl⟩) (h := ?_)
           try simp only [nP]
           refine tkH 32 (v := undef) (y := Or.inr ⟨by rfl, rfl⟩) (h := ?_)
           try simp only [nP]
           refine tkH 33 (v := undef) (y := Or.inr ⟨by rfl, rfl⟩) (h := ?_)
           try simp only [nP]
           refine tkH 34 (v := undef) (y := Or.inr ⟨by rfl, rfl⟩) (h := ?_)
           try simp only [nP]
           refine tkH 35 (v := undef) (y := Or.inr ⟨by rfl, rfl⟩) (h := ?_)
           try simp only [nP]
           refine tkH 36 (v := undef) (y := Or.inr ⟨by rfl, rfl⟩) (h := ?_)
           try simp only [nP]
           refine tkH 37 (v := undef) (y := Or.inr ⟨by rfl, rfl⟩) (h := ?_)
           try simp only [nP]
           refine tkH 38 (v := undef) (y := Or.inr ⟨by rfl, rfl⟩) (h := ?_)
           try simp only [nP]
           refine tkH 39 (v := undef) (y := Or.inr ⟨by rfl, rfl⟩) (h := ?_)
           try simp only [nP]
           refine tkH 40 (v := undef) (y := Or.inr ⟨by rfl, rfl⟩) (h := ?_)
           try simp only [nP]
           refine tkH 41 (v := undef) (y := Or.inr ⟨by rfl, rfl⟩) (h := ?_)
           try simp only [nP]
           refine tkH 42 (v := undef) (y := Or.inr ⟨by rfl, rfl⟩) (h := ?_)
           try simp only [nP]
           refine tkH 43 (v := ?_) (y := Or.inl ⟨by rfl, (by rintro W ⟨o0, o1, o2, o3, o4, o5, o6, o7⟩; go_simp <;> with_reducible rfl)⟩) (h := ?_)
           try simp only [nP]
           have J := lH (Kept.drew wr)
           refine wpAnyH_done (by kernel_rfl) ?_ _
           have KW := lH (KB.out.trans J.out)
           clear cq0 dq0 cq1 dq1 cq2 dq2
           have HX := lH (show allSame sameBd bl bl9 = false by rw [← HS.out, HDD.out, HD9.out, allSame, HT.out, HE.out]; rfl)
           go_wp2
           go_ret
           exact ⟨by rw [HX.out]; simp, HKZ.out.trans KW.out⟩
          | true =>
           cases e3 with
           | false =>
            go_wp2_with fail
            refine wp_region_held_drew (S := fun W => W.cell? ⟨w.heap.size, 2, none⟩ = some (.slice (some ⟨b8, off, none⟩) n cb) ∧ W.cell? ⟨w.heap.size + 1, 2, none⟩ = some (.slice (some ⟨f8, off9, none⟩) n9 cb9) ∧ W.cell? ⟨b8, off + k * 3, none⟩ = some (.string nn.name) ∧ W.cell? ⟨b8, off + k * 3 + 1, none⟩ = some (.slice a1 m1 c1) ∧ W.cell? ⟨b8, off + k * 3 + 2, none⟩ = some (.int .i64 nn.floor) ∧ W.cell? ⟨f8, off9 + k * 3, none⟩ = some (.string k9.name) ∧ W.cell? ⟨f8, off9 + k * 3 + 1, none⟩ = some (.slice x1 y1 z1) ∧ W.cell? ⟨f8, off9 + k * 3 + 2, none⟩ = some (.int .i64 k9.floor)) (by kernel_rfl) (HF.out _ (Kept.drew _)) (fun hHeld => ?_)
            refine tkH 0 (v := ?_) (y := Or.inl ⟨by rfl, (by rintro W ⟨o0, o1, o2, o3, o4, o5, o6, o7⟩; go_simp <;> with_reducible rfl)⟩) (h := ?_)
            try simp only [nP]
            refine tkH 1 (v := ?_) (y := Or.inl ⟨by rfl, (by rintro W ⟨o0, o1, o2, o3, o4, o5, o6, o7⟩; go_simp <;> with_reducible rfl)⟩) (h := ?_)
            try simp only [nP]
            refine tkH 2 (v := ?_) (y := Or.inl ⟨by rfl, (by rintro W ⟨o0, o1, o2, o3, o4, o5, o6, o7⟩; go_simp <;> with_reducible rfl)⟩) (h := ?_)
            try simp only [nP]
            refine tkH 3 (v := ?_) (y := Or.inl ⟨by rfl, (by rintro W ⟨o0, o1, o2, o3, o4, o5, o6, o7⟩; go_simp <;> with_reducible rfl)⟩) (h := ?_)
            try simp only [nP]
            refine tkH 4 (v := ?_) (y := Or.inl ⟨by rfl, (by rintro W ⟨o0, o1, o2, o3, o4, o5, o6, o7⟩; go_simp <;> with_reducible rfl)⟩) (h := ?_)
            try simp only [nP]
            refine tkH 5 (v := ?_) (y := Or.inl ⟨by rfl, (by rintro W ⟨o0, o1, o2, o3, o4, o5, o6, o7⟩; go_simp <;> with_reducible rfl)⟩) (h := ?_)
            try simp only [nP]
            refine tkH 6 (v := ?_) (y := Or.inl ⟨by rfl, (by rintro W ⟨o0, o1, o2, o3, o4, o5, o6, o7⟩; go_simp <;> with_reducible rfl)⟩) (h := ?_)
            try simp only [nP]
            refine tkH 7 (v := ?_) (y := Or.inl ⟨by rfl, (by rintro W ⟨o0, o1, o2, o3, o4, o5, o6, o7⟩; go_simp <;> with_reducible rfl)⟩) (h := ?_)
            try simp only [nP]
            refine tkH 8 (v := ?_) (y := Or.inl ⟨by rfl, (by rintro W ⟨o0, o1, o2, o3, o4, o5, o6, o7⟩; go_simp <;> with_reducible rfl)⟩) (h := ?_)
            try simp only [nP]
            refine tkH 9 (v := ?_) (y := Or.inl ⟨by rfl, (by rintro W ⟨o0, o1, o2, o3, o4, o5, o6, o7⟩; go_simp <;> with_reducible rfl)⟩) (h := ?_)
            try simp only [nP]
            refine tkH 10 (v := ?_) (y := Or.inl ⟨by rfl, (by rintro W ⟨o0, o1, o2, o3, o4, o5, o6, o7⟩; go_simp <;> with_reducible rfl)⟩) (h := ?_)
            try simp only [nP]
            refine tkH 11 (v := ?_) (y := Or.inl ⟨by rfl, (by rintro W ⟨o0, o1, o2, o3, o4, o5, o6, o7⟩; go_simp <;> with_reducible rfl)⟩) (h := ?_)
            try simp only [nP]
            refine tkH 12 (v := ?_) (y := Or.inl ⟨by rfl, (by rintro W ⟨o0, o1, o2, o3, o4, o5, o6, o7⟩; go_simp <;> with_reducible rfl)⟩) (h := ?_)
            try simp only [nP]
            refine tkH 13 (v := ?_) (y := Or.inl ⟨by rfl, (by rintro W ⟨o0, o1, o2, o3, o4, o5, o6, o7⟩; go_simp <;> with_reducible rfl)⟩) (h := ?_)
            try simp only [nP]
            refine tkH 14 (v := ?_) (y := Or.inl ⟨by rfl, (by rintro W ⟨o0, o1, o2, o3, o4, o5, o6, o7⟩; go_simp <;> with_reducible rfl)⟩) (h := ?_)
            try simp only [nP]
            refine tkH 15 (v := ?_) (y := Or.inl ⟨by rfl, (by rintro W ⟨o0, o1, o2, o3, o4, o5, o6, o7⟩; go_simp <;> with_reducible rfl)⟩) (h := ?_)
            try simp only [nP]
            refine tkH 16 (v := ?_) (y := Or.inl ⟨by rfl, (by rintro W ⟨o0, o1, o2, o3, o4, o5, o6, o7⟩; go_simp <;> with_reducible rfl)⟩) (h := ?_)
            try simp only [nP]
            refine tkH 17 (v := ?_) (y := Or.inl ⟨by rfl, (by rintro W ⟨o0, o1, o2, o3, o4, o5, o6, o7⟩; go_simp <;> with_reducible rfl)⟩) (h := ?_)
            try simp only [nP]
            refine tkH 18 (v := ?_) (y := Or.inl ⟨by rfl, (by rintro W ⟨o0, o1, o2, o3, o4, o5, o6, o7⟩; go_simp <;> with_reducible rfl)⟩) (h := ?_)
            try simp only [nP]
            refine tkH 19 (v := ?_) (y := Or.inl ⟨by rfl, (by rintro W ⟨o0, o1, o2, o3, o4, o5, o6, o7⟩; go_simp <;> with_reducible rfl)⟩) (h := ?_)
            try simp only [nP]
            refine tkH 20 (v := ?_) (y := Or.inl ⟨by rfl, (by rintro W ⟨o0, o1, o2, o3, o4, o5, o6, o7⟩; go_simp <;> with_reducible rfl)⟩) (h := ?_)
            try simp only [nP]
            refine tkH 21 (v := ?_) (y := Or.inl ⟨by rfl, (by rintro W ⟨o0, o1, o2, o3, o4, o5, o6, o7⟩; go_simp <;> with_reducible rfl)⟩) (h := ?_)
            try simp only [nP]
            refine tkH 22 (v := ?_) (y := Or.inl ⟨by rfl, (by rintro W ⟨o0, o1, o2, o3, o4, o5, o6, o7⟩; go_simp <;> with_reducible rfl)⟩) (h := ?_)
            try simp only [nP]
            refine tkH 23 (v := ?_) (y := Or.inl ⟨by rfl, (by rintro W ⟨o0, o1, o2, o3, o4, o5, o6, o7⟩; go_simp <;> with_reducible rfl)⟩) (h := ?_)
            try simp only [nP]
            refine tkH 24 (v := ?_) (y := Or.inl ⟨by rfl, (by rintro W ⟨o0, o1, o2, o3, o4, o5, o6, o7⟩; go_simp <;> with_reducible rfl)⟩) (h := ?_)
            try simp only [nP]
            refine tkH 25 (v := ?_) (y := Or.inl ⟨by rfl, (by rintro W ⟨o0, o1, o2, o3, o4, o5, o6, o7⟩; go_simp <;> with_reducible rfl)⟩) (h := ?_)
            try simp only [nP]
            refine tkH 26 (v := ?_) (y := Or.inl ⟨by rfl, (by rintro W ⟨o0, o1, o2, o3, o4, o5, o6, o7⟩; go_simp <;> with_reducible rfl)⟩) (h := ?_)
            try simp only [nP]
            refine tkH 27 (v := ?_) (y := Or.inl ⟨by rfl, (by rintro W ⟨o0, o1, o2, o3, o4, o5, o6, o7⟩; go_simp <;> with_reducible rfl)⟩) (h := ?_)
            try simp only [nP]
            refine tkH 28 (v := ?_) (y := Or.inl ⟨by rfl, (by rintro W ⟨o0, o1, o2, o3, o4, o5, o6, o7⟩; go_simp <;> with_reducible rfl)⟩) (h := ?_)
            try simp only [nP]
            refine tkH 29 (v := undef) (y := Or.inr ⟨by rfl, rfl⟩) (h := ?_)
            try simp only [nP]
            refine tkH 30 (v := undef) (y := Or.inr ⟨by rfl, rfl⟩) (h := ?_)
            try simp only [nP]
            refine tkH 31 (v := undef) (y := Or.inr ⟨by rfl, rfl⟩) (h := ?_)
            try simp only [nP]
            refine tkH 32 (v := undef) (y := Or.inr ⟨by rfl, rfl⟩) (h := ?_)
            try simp only [nP]
            refine tkH 33 (v := undef) (y := Or.inr ⟨by rfl, rfl⟩) (h := ?_)
            try simp only [nP]
            refine tkH 34 (v := undef) (y := Or.inr ⟨by rfl, rfl⟩) (h := ?_)
            try simp only [nP]
            refine tkH 35 (v := undef) (y := Or.inr ⟨by rfl, rfl⟩) (h := ?_)
            try simp only [nP]
            refine tkH 36 (v := undef) (y := Or.inr ⟨by rfl, rfl⟩) (h := ?_)
            try simp only [nP]
            refine tkH 37 (v := undef) (y := Or.inr ⟨by rfl, rfl⟩) (h := ?_)
            try simp only [nP]
            refine tkH 38 (v := undef) (y := Or.inr ⟨by rfl, rfl⟩) (h := ?_)
            try simp only [nP]
            refine tkH 39 (v := undef) (y := Or.inr ⟨by rfl, rfl⟩) (h := ?_)
            try simp only [nP]
            refine tkH 40 (v := undef) (y := Or.inr ⟨by rfl, rfl⟩) (h := ?_)
            try simp only [nP]
            refine tkH 41 (v := undef) (y := Or.inr ⟨by rfl, rfl⟩) (h := ?_)
            try simp only [nP]
            refine tkH 42 (v := undef) (y := Or.inr ⟨by rfl, rfl⟩) (h := ?_)
            try simp only [nP]
            refine tkH 43 (v := ?_) (y := Or.inl ⟨by rfl, (by rintro W ⟨o0, o1, o2, o3, o4, o5, o6, o7⟩; go_simp <;> with_reducible rfl)⟩) (h := ?_)
            try simp only [nP]
            have J := lH (Kept.drew wr)
            refine wpAnyH_done (by kernel_rfl) ?_ _
            have KW := lH (KB.out.trans J.out)
            clear cq0 dq0 cq1 dq1 cq2 dq2
            have HX := lH (show allSame sameBd bl bl9 = false by rw [← HS.out, HDD.out, HD9.out, allSame, HT.out, HE.out]; simp)
            go_wp2
            go_ret
            exact ⟨by rw [HX.out]; simp, HKZ.out.trans KW.out⟩
           | true =>
            go_wp2_with fail
            refine wp_region_held_drew (S := fun W => W.cell? ⟨w.heap.size, 2, none⟩ = some (.slice (some ⟨b8, off, none⟩) n cb) ∧ W.cell? ⟨w.heap.size + 1, 2, none⟩ = some (.slice (some ⟨f8, off9, none⟩) n9 cb9) ∧ W.cell? ⟨b8, off + k * 3, none⟩ = some (.string nn.name) ∧ W.cell? ⟨b8, off + k * 3 + 1, none⟩ = some (.slice a1 m1 c1) ∧ W.cell? ⟨b8, off + k * 3 + 2, none⟩ = some (.int .i64 nn.floor) ∧ W.cell? ⟨f8, off9 + k * 3, none⟩ = some (.string k9.name) ∧ W.cell? ⟨f8, off9 + k * 3 + 1, none⟩ = some (.slice x1 y1 z1) ∧ W.cell? ⟨f8, off9 + k * 3 + 2, none⟩ = some (.int .i64 k9.floor)) (by kernel_rfl) (HF.out _ (Kept.drew _)) (fun hHeld => ?_)
            refine tkH 0 (v := ?_) (y := Or.inl ⟨by rfl, (by rintro W ⟨o0, o1, o2, o3, o4, o5, o6, o7⟩; go_simp <;> with_reducible rfl)⟩) (h := ?_)
            try simp only [nP]
            refine tkH 1 (v := ?_) (y := Or.inl ⟨by rfl, (by rintro W ⟨o0, o1, o2, o3, o4, o5, o6, o7⟩; go_simp <;> with_reducible rfl)⟩) (h := ?_)
            try simp only [nP]
            refine tkH 2 (v := ?_) (y := Or.inl ⟨by rfl, (by rintro W ⟨o0, o1, o2, o3, o4, o5, o6, o7⟩; go_simp <;> with_reducible rfl)⟩) (h := ?_)
            try simp only [nP]
            refine tkH 3 (v := ?_) (y := Or.inl ⟨by rfl, (by rintro W ⟨o0, o1, o2, o3, o4, o5, o6, o7⟩; go_simp <;> with_reducible rfl)⟩) (h := ?_)
            try simp only [nP]
            refine tkH 4 (v := ?_) (y := Or.inl ⟨by rfl, (by rintro W ⟨o0, o1, o2, o3, o4, o5, o6, o7⟩; go_simp <;> with_reducible rfl)⟩) (h := ?_)
            try simp only [nP]
            refine tkH 5 (v := ?_) (y := Or.inl ⟨by rfl, (by rintro W ⟨o0, o1, o2, o3, o4, o5, o6, o7⟩; go_simp <;> with_reducible rfl)⟩) (h := ?_)
            try simp only [nP]
            refine tkH 6 (v := ?_) (y := Or.inl ⟨by rfl, (by rintro W ⟨o0, o1, o2, o3, o4, o5, o6, o7⟩; go_simp <;> with_reducible rfl)⟩) (h := ?_)
            try simp only [nP]
            refine tkH 7 (v := ?_) (y := Or.inl ⟨by rfl, (by rintro W ⟨o0, o1, o2, o3, o4, o5, o6, o7⟩; go_simp <;> with_reducible rfl)⟩) (h := ?_)
            try simp only [nP]
            refine tkH 8 (v := ?_) (y := Or.inl ⟨by rfl, (by rintro W ⟨o0, o1, o2, o3, o4, o5, o6, o7⟩; go_simp <;> with_reducible rfl)⟩) (h := ?_)
            try simp only [nP]
            refine tkH 9 (v := ?_) (y := Or.inl ⟨by rfl, (by rintro W ⟨o0, o1, o2, o3, o4, o5, o6, o7⟩; go_simp <;> with_reducible rfl)⟩) (h := ?_)
            try simp only [nP]
            refine tkH 10 (v := ?_) (y := Or.inl ⟨by rfl, (by rintro W ⟨o0, o1, o2, o3, o4, o5, o6, o7⟩; go_simp <;> with_reducible rfl)⟩) (h := ?_)
            try simp only [nP]
            refine tkH 11 (v := ?_) (y := Or.inl ⟨by rfl, (by rintro W ⟨o0, o1, o2, o3, o4, o5, o6, o7⟩; go_simp <;> with_reducible rfl)⟩) (h := ?_)
            try simp only [nP]
            refine tkH 12 (v := ?_) (y := Or.inl ⟨by rfl, (by rintro W ⟨o0, o1, o2, o3, o4, o5, o6, o7⟩; go_simp <;> with_reducible rfl)⟩) (h := ?_)
            try simp only [nP]
            refine tkH 13 (v := ?_) (y := Or.inl ⟨by rfl, (by rintro W ⟨o0, o1, o2, o3, o4, o5, o6, o7⟩; go_simp <;> with_reducible rfl)⟩) (h := ?_)
            try simp only [nP]
            refine tkH 14 (v := ?_) (y := Or.inl ⟨by rfl, (by rintro W ⟨o0, o1, o2, o3, o4, o5, o6, o7⟩; go_simp <;> with_reducible rfl)⟩) (h := ?_)
            try simp only [nP]
            refine tkH 15 (v := ?_) (y := Or.inl ⟨by rfl, (by rintro W ⟨o0, o1, o2, o3, o4, o5, o6, o7⟩; go_simp <;> with_reducible rfl)⟩) (h := ?_)
            try simp only [nP]
            refine tkH 16 (v := ?_) (y := Or.inl ⟨by rfl, (by rintro W ⟨o0, o1, o2, o3, o4, o5, o6, o7⟩; go_simp <;> with_reducible rfl)⟩) (h := ?_)
            try simp only [nP]
            refine tkH 17 (v := ?_) (y := Or.inl ⟨by rfl, (by rintro W ⟨o0, o1, o2, o3, o4, o5, o6, o7⟩; go_simp <;> with_reducible rfl)⟩) (h := ?_)
            try simp only [nP]
            refine tkH 18 (v := ?_) (y := Or.inl ⟨by rfl, (by rintro W ⟨o0, o1, o2, o3, o4, o5, o6, o7⟩; go_simp <;> with_reducible rfl)⟩) (h := ?_)
            try simp only [nP]
            refine tkH 19 (v := ?_) (y := Or.inl ⟨by rfl, (by rintro W ⟨o0, o1, o2, o3, o4, o5, o6, o7⟩; go_simp <;> with_reducible rfl)⟩) (h := ?_)
            try simp only [nP]
            refine tkH 20 (v := ?_) (y := Or.inl ⟨by rfl, (by rintro W ⟨o0, o1, o2, o3, o4, o5, o6, o7⟩; go_simp <;> with_reducible rfl)⟩) (h := ?_)
            try simp only [nP]
            refine tkH 21 (v := ?_) (y := Or.inl ⟨by rfl, (by rintro W ⟨o0, o1, o2, o3, o4, o5, o6, o7⟩; go_simp <;> with_reducible rfl)⟩) (h := ?_)
            try simp only [nP]
            refine tkH 22 (v := ?_) (y := Or.inl ⟨by rfl, (by rintro W ⟨o0, o1, o2, o3, o4, o5, o6, o7⟩; go_simp <;> with_reducible rfl)⟩) (h := ?_)
            try simp only [nP]
            refine tkH 23 (v := ?_) (y := Or.inl ⟨by rfl, (by rintro W ⟨o0, o1, o2, o3, o4, o5, o6, o7⟩; go_simp <;> with_reducible rfl)⟩) (h := ?_)
            try simp only [nP]
            refine tkH 24 (v := ?_) (y := Or.inl ⟨by rfl, (by rintro W ⟨o0, o1, o2, o3, o4, o5, o6, o7⟩; go_simp <;> with_reducible rfl)⟩) (h := ?_)
            try simp only [nP]
            refine tkH 25 (v := ?_) (y := Or.inl ⟨by rfl, (by rintro W ⟨o0, o1, o2, o3, o4, o5, o6, o7⟩; go_simp <;> with_reducible rfl)⟩) (h := ?_)
            try simp only [nP]
            refine tkH 26 (v := ?_) (y := Or.inl ⟨by rfl, (by rintro W ⟨o0, o1, o2, o3, o4, o5, o6, o7⟩; go_simp <;> with_reducible rfl)⟩) (h := ?_)
            try simp only [nP]
            refine tkH 27 (v := ?_) (y := Or.inl ⟨by rfl, (by rintro W ⟨o0, o1, o2, o3, o4, o5, o6, o7⟩; go_simp <;> with_reducible rfl)⟩) (h := ?_)
            try simp only [nP]
            refine tkH 28 (v := ?_) (y := Or.inl ⟨by rfl, (by rintro W ⟨o0, o1, o2, o3, o4, o5, o6, o7⟩; go_simp <;> with_reducible rfl)⟩) (h := ?_)
            try simp only [nP]
            refine tkH 29 (v := ?_) (y := Or.inl ⟨by rfl, (by rintro W ⟨o0, o1, o2, o3, o4, o5, o6, o7⟩; go_simp <;> with_reducible rfl)⟩) (h := ?_)
            try simp only [nP]
            refine tkH 30 (v := ?_) (y := Or.inl ⟨by rfl, (by rintro W ⟨o0, o1, o2, o3, o4, o5, o6, o7⟩; go_simp <;> with_reducible rfl)⟩) (h := ?_)
            try simp only [nP]
            refine tkH 31 (v := ?_) (y := Or.inl ⟨by rfl, (by rintro W ⟨o0, o1, o2, o3, o4, o5, o6, o7⟩; go_simp <;> with_reducible rfl)⟩) (h := ?_)
            try simp only [nP]
            refine tkH 32 (v := ?_) (y := Or.inl ⟨by rfl, (by rintro W ⟨o0, o1, o2, o3, o4, o5, o6, o7⟩; go_simp <;> with_reducible rfl)⟩) (h := ?_)
            try simp only [nP]
            refine tkH 33 (v := ?_) (y := Or.inl ⟨by rfl, (by rintro W ⟨o0, o1, o2, o3, o4, o5, o6, o7⟩; go_simp <;> with_reducible rfl)⟩) (h := ?_)
            try simp only [nP]
            refine tkH 34 (v := ?_) (y := Or.inl ⟨by rfl, (by rintro W ⟨o0, o1, o2, o3, o4, o5, o6, o7⟩; go_simp <;> with_reducible rfl)⟩) (h := ?_)
            try simp only [nP]
            refine tkH 35 (v := ?_) (y := Or.inl ⟨by rfl, (by rintro W ⟨o0, o1, o2, o3, o4, o5, o6, o7⟩; go_simp <;> with_reducible rfl)⟩) (h := ?_)
            try simp only [nP]
            refine tkH 36 (v := ?_) (y := Or.inl ⟨by rfl, (by rintro W ⟨o0, o1, o2, o3, o4, o5, o6, o7⟩; go_simp <;> with_reducible rfl)⟩) (h := ?_)
            try simp only [nP]
            refine tkH 37 (v := ?_) (y := Or.inl ⟨by rfl, (by rintro W ⟨o0, o1, o2, o3, o4, o5, o6, o7⟩; go_simp <;> with_reducible rfl)⟩) (h := ?_)
            try simp only [nP]
            refine tkH 38 (v := ?_) (y := Or.inl ⟨by rfl, (by rintro W ⟨o0, o1, o2, o3, o4, o5, o6, o7⟩; go_simp <;> with_reducible rfl)⟩) (h := ?_)
            try simp only [nP]
            refine tkH 39 (v := ?_) (y := Or.inl ⟨by rfl, (by rintro W ⟨o0, o1, o2, o3, o4, o5, o6, o7⟩; go_simp <;> with_reducible rfl)⟩) (h := ?_)
            try simp only [nP]
            refine tkH 40 (v := ?_) (y := Or.inl ⟨by rfl, (by rintro W ⟨o0, o1, o2, o3, o4, o5, o6, o7⟩; go_simp <;> with_reducible rfl)⟩) (h := ?_)
            try simp only [nP]
            refine rdH (rs := [41]) (h := coH (fun K9 hK9 => ?_) AllReadyH.nil)
            go_simp
            refine (HCC.out _ (Kept.drew _)).mono ?_
            rintro e w8 ⟨rfl, kk⟩
            have J := lH ((Kept.drew wr).trans kk)
            clear kk
            refine hK9.out _ _ (HF.out _ J.out) (fun hHeld1 => ?_)
            clear hK9 K9
            try simp only [nP]
            refine tkH 42 (v := ?_) (y := Or.inl ⟨by rfl, (by rintro W ⟨o0, o1, o2, o3, o4, o5, o6, o7⟩; go_simp <;> with_reducible rfl)⟩) (h := ?_)
            try simp only [nP]
            refine tkH 43 (v := ?_) (y := Or.inl ⟨by rfl, (by rintro W ⟨o0, o1, o2, o3, o4, o5, o6, o7⟩; go_simp <;> with_reducible rfl)⟩) (h := ?_)
            try simp only [nP]
            refine wpAnyH_done (by kernel_rfl) ?_ _
            have KW := lH (KB.out.trans J.out)
            clear cq0 dq0 cq1 dq1 cq2 dq2
            cases e2 with
            | false =>
             have HX := lH (show allSame sameBd bl bl9 = false by rw [← HS.out, HDD.out, HD9.out, allSame, HT.out, HE.out]; rfl)
             go_wp2
             go_ret
             exact ⟨by rw [HX.out]; simp, HKZ.out.trans KW.out⟩
            | true =>
             have HX := lH (show allSame sameBd (bl.drop (k + 1)) (bl9.drop (k + 1)) = allSame sameBd bl bl9 by rw [← HS.out, HDD.out, HD9.out, allSame, HT.out, HE.out]; rfl)
             go_wp2
             go_roundw
             case rel => exact ⟨k + 1, by omega, by go_num, HX.out, KW.out⟩
             case measure => simp [intOf]; omega
        · have EKB := lH (show allSame sameBd bl bl9 = true by rw [← hrest, List.drop_of_length_le (by rw [HLn.out]; omega), List.drop_of_length_le (by rw [HLn9.out]; omega)]; rfl)
          have hkk : ¬ (k : Int) < (n : Int) := by omega
          clear hrest hK
          go_wp2_with fail
          go_ret
          exact ⟨by rw [EKN.out, EKP.out, EKB.out]; rfl, HKZ.out.trans KB.out⟩
end Go.Proofs.YtfpgekjhcfoohaaGreat
