/- A node as the reference has it: Of. -/
import Derived.Test.YtfpgekjhcfoohaaGreatShort
import Derived.Test.YtfpgekjhcfoohaaGreatNodRefParse
import Derived.Test.YtfpgekjhcfoohaaGreatLab
import Derived.Test.YtfpgekjhcfoohaaGreatTai
set_option linter.unusedVariables false
namespace Go.Proofs.YtfpgekjhcfoohaaGreat
open Go.RowKit
abbrev SX := Option Addr × Nat × Nat
abbrev NX := Nod × SX × SX × SX
abbrev slV (x : SX) : Value := .slice x.1 x.2.1 x.2.2
abbrev aggN (z : NX) : Value := .agg #[.string z.1.name, slV z.2.1, slV z.2.2.1, slV z.2.2.2, .bool z.1.cordon]
def At3 (w : World) (z : NX) : Prop := NodAt w (slV z.2.1) (slV z.2.2.1) (slV z.2.2.2) z.1
def Within (lo hi : Nat) (z : NX) : Prop := (∀ b off sp, z.2.1.1 = some ⟨b, off, sp⟩ → lo ≤ b ∧ b < hi) ∧ (∀ b off sp, z.2.2.1.1 = some ⟨b, off, sp⟩ → lo ≤ b ∧ b < hi) ∧ (∀ b off sp, z.2.2.2.1 = some ⟨b, off, sp⟩ → lo ≤ b ∧ b < hi)
theorem vec_spelt {T : TypeId} {w w' : World} {e : Ending} {l : Vec.V} (h : ∃ x, e = .returned x ∧ Vec.OwnV T w' w.heap.size x l ∧ Kept w w') : ∃ a m c, e = .returned (.slice a m c) ∧ Vec.Reads w' (.slice a m c) l ∧ (∀ b off sp, a = some ⟨b, off, sp⟩ → w.heap.size ≤ b ∧ b < w'.heap.size) ∧ Kept w w' := by
 obtain ⟨x, rfl, ho, k⟩ := h
 obtain ⟨a, cap, rfl, h⟩ := ho.at_
 exact ⟨a, _, cap, rfl, ⟨a, cap, rfl, h⟩, fun b off sp e => ho.1.lt b (by subst e; rfl), k⟩
theorem row_spelt {α : Type} {L : Lay α} {T : TypeId} {w w' : World} {e : Ending} {l : List α} (h : ∃ x, e = .returned x ∧ Own L T w' w.heap.size x l ∧ Kept w w') : ∃ a m c, e = .returned (.slice a m c) ∧ Reads L w' (.slice a m c) l ∧ (∀ b off sp, a = some ⟨b, off, sp⟩ → w.heap.size ≤ b ∧ b < w'.heap.size) ∧ Kept w w' := by
 obtain ⟨x, rfl, ho, k⟩ := h
 obtain ⟨a, cap, rfl, h⟩ := ho.at_
 exact ⟨a, _, cap, rfl, ⟨a, cap, rfl, h⟩, fun b off sp e => ho.1.lt b (by subst e; rfl), k⟩
theorem ofVO {v : Value} {l : Vec.V} {w : World} (h : Vec.Reads w v l) (hf : l.length ≤ 1000000) :
 Calls Tryz.prog 82 #[v] w (fun e w' => ∃ x, e = .returned x ∧ Vec.OwnV 193 w' w.heap.size x l ∧ Kept w w') := by
 obtain ⟨a, cap, rfl, h1, h2, h3⟩ := h
 exact Vec.of_own a _ cap l w h3 hf
theorem ofPO {v : Value} {l : PL} {w : World} (h : Reads PairLay w v l) (hf : l.length ≤ 1000000) :
 Calls Tryz.prog 83 #[v] w (fun e w' => ∃ x, e = .returned x ∧ Own PairLay 194 w' w.heap.size x l ∧ Kept w w') := by
 obtain ⟨a, cap, rfl, h1, h2, h3⟩ := h
 exact of_own a _ cap l w h3 hf
theorem ofAO {v : Value} {l : NL} {w : World} (h : Reads TaLay w v l) (hf : l.length ≤ 1000000) :
 Calls Tryz.prog 145 #[v] w (fun e w' => ∃ x, e = .returned x ∧ Own TaLay 200 w' w.heap.size x l ∧ Kept w w') := by
 obtain ⟨a, cap, rfl, h1, h2, h3⟩ := h
 exact ofA_own a _ cap l w h3 hf
theorem five_past {W : World} {q p : Nat} {v0 v1 v2 v3 v4 u0 u1 u2 u3 u4 : Value} (h : W.cell? ⟨p, 0, none⟩ = some v0 ∧ W.cell? ⟨p, 1, none⟩ = some v1 ∧ W.cell? ⟨p, 2, none⟩ = some v2 ∧ W.cell? ⟨p, 3, none⟩ = some v3 ∧ W.cell? ⟨p, 4, none⟩ = some v4) (hne : p ≠ q) :
 ((((((W.setCell ⟨q, 0, none⟩ u0).setCell ⟨q, 1, none⟩ u1).setCell ⟨q, 2, none⟩ u2).setCell ⟨q, 3, none⟩ u3).setCell ⟨q, 4, none⟩ u4).cell? ⟨p, 0, none⟩ = some v0 ∧ (((((W.setCell ⟨q, 0, none⟩ u0).setCell ⟨q, 1, none⟩ u1).setCell ⟨q, 2, none⟩ u2).setCell ⟨q, 3, none⟩ u3).setCell ⟨q, 4, none⟩ u4).cell? ⟨p, 1, none⟩ = some v1 ∧ (((((W.setCell ⟨q, 0, none⟩ u0).setCell ⟨q, 1, none⟩ u1).setCell ⟨q, 2, none⟩ u2).setCell ⟨q, 3, none⟩ u3).setCell ⟨q, 4, none⟩ u4).cell? ⟨p, 2, none⟩ = some v2 ∧ (((((W.setCell ⟨q, 0, none⟩ u0).setCell ⟨q, 1, none⟩ u1).setCell ⟨q, 2, none⟩ u2).setCell ⟨q, 3, none⟩ u3).setCell ⟨q, 4, none⟩ u4).cell? ⟨p, 3, none⟩ = some v3 ∧ (((((W.setCell ⟨q, 0, none⟩ u0).setCell ⟨q, 1, none⟩ u1).setCell ⟨q, 2, none⟩ u2).setCell ⟨q, 3, none⟩ u3).setCell ⟨q, 4, none⟩ u4).cell? ⟨p, 4, none⟩ = some v4) := by
 have hb := set5_block W q u0 u1 u2 u3 u4 p hne
 exact ⟨(World.cell?_of_block (a := ⟨p, 0, none⟩) hb).trans h.1, (World.cell?_of_block (a := ⟨p, 1, none⟩) hb).trans h.2.1, (World.cell?_of_block (a := ⟨p, 2, none⟩) hb).trans h.2.2.1, (World.cell?_of_block (a := ⟨p, 3, none⟩) hb).trans h.2.2.2.1, (World.cell?_of_block (a := ⟨p, 4, none⟩) hb).trans h.2.2.2.2⟩
set_option maxRecDepth 100000 in
set_option maxHeartbeats 4000000 in
theorem ofN_any (n : Nod) (v1 v2 v3 : Value) (w : World) (h : NodAt w v1 v2 v3 n) (hl : LowNod n) :
 Calls Tryz.prog 102 #[NodV n v1 v2 v3] w fun e w' => ∃ z : NX, e = .returned (aggN z) ∧ z.1 = n ∧ At3 w' z ∧ Within w.heap.size w'.heap.size z ∧ Kept w w' := by
 obtain ⟨W0, hW0⟩ : ∃ W0, (w.alloc (.cells #[.string n.name, v1, v2, v3, .bool n.cordon] 43)).alloc (.cells #[.string ⟨#[]⟩, .slice none 0 0, .slice none 0 0, .slice none 0 0, .bool false] 94) = W0 := ⟨_, rfl⟩
 have hk0 : Kept w W0 := by rw [← hW0]; exact kept_two _ _ _
 have HB := lH (show ∀ W, Kept W0 W → W.cell? ⟨w.heap.size, 0, none⟩ = some (.string n.name) ∧ W.cell? ⟨w.heap.size, 1, none⟩ = some v1 ∧ W.cell? ⟨w.heap.size, 2, none⟩ = some v2 ∧ W.cell? ⟨w.heap.size, 3, none⟩ = some v3 ∧ W.cell? ⟨w.heap.size, 4, none⟩ = some (.bool n.cordon) from fun W k => (fresh5 w _ _ _ _ _ 43 W ((by rw [← hW0]; exact kept_alloc _ _ : Kept (w.alloc (.cells #[.string n.name, v1, v2, v3, .bool n.cordon] 43)) W0).trans k)).1)
 have HQ := lH (show ∀ W, Kept W0 W → Cells5 (w.heap.size + 1) (.string ⟨#[]⟩) (.slice none 0 0) (.slice none 0 0) (.slice none 0 0) (.bool false) W from fun W k => by
  have := fresh5 (w.alloc (.cells #[.string n.name, v1, v2, v3, .bool n.cordon] 43)) (.string ⟨#[]⟩) (.slice none 0 0) (.slice none 0 0) (.slice none 0 0) (.bool false) 94 W (by rw [hW0]; exact k)
  rw [World.size_alloc] at this
  exact this)
 have HH := lH (show W0.heap[w.heap.size + 1]? = some (.cells #[.string ⟨#[]⟩, .slice none 0 0, .slice none 0 0, .slice none 0 0, .bool false] 94) by
  have := (w.alloc (.cells #[.string n.name, v1, v2, v3, .bool n.cordon] 43)).alloc_heap_new (.cells #[.string ⟨#[]⟩, .slice none 0 0, .slice none 0 0, .slice none 0 0, .bool false] 94)
  rw [hW0, World.size_alloc] at this
  exact this)
 have H1 := lH (fun W (k : Kept W0 W) => (ofVO (h.cap.kept (hk0.trans k)) hl.cap).mono fun _ _ => vec_spelt)
 have H2 := lH (fun W (k : Kept W0 W) => (ofPO (h.labels.kept (hk0.trans k)) hl.labels).mono fun _ _ => row_spelt)
 have H3 := lH (fun W (k : Kept W0 W) => (ofAO (h.taints.kept (hk0.trans k)) hl.taints).mono fun _ _ => row_spelt)
 have HSZ := lH h.size
 have HK0 := lH hk0
 obtain ⟨⟨nm, l1, l2, l3, cd⟩, hnn⟩ : ∃ m, m = n := ⟨n, rfl⟩
 subst hnn
 dsimp only at H1 H2 H3 HSZ HB hW0
 obtain ⟨b0, b1, b2, b3, b4⟩ := HB.out _ (Kept.refl _)
 clear h hl hk0
 unfold NodV
 dsimp only
 go_enter Tryz.func102, Tryz.ntmps102
 go_wp2
 try rw [hW0]
 clear hW0
 go_region_held3 (fun W => (W.cell? ⟨w.heap.size, 0, none⟩ = some (.string nm) ∧ W.cell? ⟨w.heap.size, 1, none⟩ = some v1 ∧ W.cell? ⟨w.heap.size, 2, none⟩ = some v2 ∧ W.cell? ⟨w.heap.size, 3, none⟩ = some v3 ∧ W.cell? ⟨w.heap.size, 4, none⟩ = some (.bool cd)))
  (first | exact HB.out _ (Kept.drew _) | exact HB.out _ K1.out | exact HB.out _ K2.out | exact HB.out _ K3.out | exact five_past (HB.out _ K3.out) (by omega))
  (first | (go_at_call 82; refine (H1.out _ (Kept.drew _)).mono ?_; rintro e1 w1 ⟨a1, m1, c1, rfl, r1, g1, k1⟩; have G1 := lH (show ∀ b off sp, a1 = some ⟨b, off, sp⟩ → w.heap.size ≤ b ∧ b < w1.heap.size from fun b o s e => ⟨Nat.le_trans HK0.out.size (g1 b o s e).1, (g1 b o s e).2⟩); have K1 := lH ((Kept.drew _).trans k1); have R1 := lH r1; clear k1 r1 g1)
         | (go_at_call 83; refine (H2.out _ K1.out).mono ?_; rintro e2 w2 ⟨a2, m2, c2, rfl, r2, g2, k2⟩; have G2 := lH (show ∀ b off sp, a2 = some ⟨b, off, sp⟩ → w.heap.size ≤ b ∧ b < w2.heap.size from fun b o s e => ⟨Nat.le_trans HK0.out.size (Nat.le_trans K1.out.size (g2 b o s e).1), (g2 b o s e).2⟩); have G1 := lH (show ∀ b off sp, a1 = some ⟨b, off, sp⟩ → w.heap.size ≤ b ∧ b < w2.heap.size from fun b o s e => ⟨(G1.out b o s e).1, Nat.lt_of_lt_of_le (G1.out b o s e).2 k2.size⟩); have R1 := lH (R1.out.kept k2); have K2 := lH (K1.out.trans k2); have R2 := lH r2; clear k2 r2 g2)
         | (go_at_call 145; refine (H3.out _ K2.out).mono ?_; rintro e3 w3 ⟨a3, m3, c3, rfl, r3, g3, k3⟩; have G3 := lH (show ∀ b off sp, a3 = some ⟨b, off, sp⟩ → w.heap.size ≤ b ∧ b < w3.heap.size from fun b o s e => ⟨Nat.le_trans HK0.out.size (Nat.le_trans K2.out.size (g3 b o s e).1), (g3 b o s e).2⟩); have G1 := lH (show ∀ b off sp, a1 = some ⟨b, off, sp⟩ → w.heap.size ≤ b ∧ b < w3.heap.size from fun b o s e => ⟨(G1.out b o s e).1, Nat.lt_of_lt_of_le (G1.out b o s e).2 k3.size⟩); have G2 := lH (show ∀ b off sp, a2 = some ⟨b, off, sp⟩ → w.heap.size ≤ b ∧ b < w3.heap.size from fun b o s e => ⟨(G2.out b o s e).1, Nat.lt_of_lt_of_le (G2.out b o s e).2 k3.size⟩); have R1 := lH (R1.out.kept k3); have R2 := lH (R2.out.kept k3); have K3 := lH (K2.out.trans k3); have R3 := lH r3; clear k3 r3 g3; obtain ⟨⟨y0, y1, y2, y3, y4⟩, x0, x1, x2, x3, x4⟩ := HQ.out _ K3.out))
 have P := lH (put_at ⟨y0, y1, y2, y3, y4⟩ nm a1 a2 a3 m1 c1 m2 c2 m3 c3 cd)
 have HZ := lH ((K3.out.block (w.heap.size + 1) (Array.getElem?_eq_some_iff.1 HH.out).1).trans HH.out)
 go_wp2
 obtain ⟨WE, hWE⟩ : ∃ W, (((((w3.setCell ⟨w.heap.size + 1, 0, none⟩ (.string nm)).setCell ⟨w.heap.size + 1, 1, none⟩ (.slice a1 m1 c1)).setCell ⟨w.heap.size + 1, 2, none⟩ (.slice a2 m2 c2)).setCell ⟨w.heap.size + 1, 3, none⟩ (.slice a3 m3 c3)).setCell ⟨w.heap.size + 1, 4, none⟩ (.bool cd)) = W := ⟨_, rfl⟩
 rw [hWE] at P ⊢
 clear hWE y0 y1 y2 y3 y4 x0 x1 x2 x3 x4
 obtain ⟨⟨d0, d1, d2, d3, d4⟩, hsz, hbl, hkp⟩ := P.out
 refine bodyPost_ret (by simp [results, Tryz.results102, go_sem, d0, d1, d2, d3, d4]; try rfl) rfl ?_
 exact ⟨(⟨nm, l1, l2, l3, cd⟩, (a1, m1, c1), (a2, m2, c2), (a3, m3, c3)), rfl, rfl, node_past (n := ⟨nm, l1, l2, l3, cd⟩) ⟨HSZ.out, R1.out, R2.out, R3.out⟩ hsz hbl (no_row HZ.out), ⟨fun b o s e => by rw [hsz]; exact G1.out b o s e, fun b o s e => by rw [hsz]; exact G2.out b o s e, fun b o s e => by rw [hsz]; exact G3.out b o s e⟩, hkp _ _ (Nat.le_succ _) (HK0.out.trans K3.out)⟩
end Go.Proofs.YtfpgekjhcfoohaaGreat
