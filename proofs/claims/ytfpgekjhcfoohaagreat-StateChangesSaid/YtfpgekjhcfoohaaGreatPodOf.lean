/- A pod as the reference has it: Of. -/
import Derived.Test.YtfpgekjhcfoohaaGreatShort
import Derived.Test.YtfpgekjhcfoohaaGreatPodParsed
import Derived.Test.YtfpgekjhcfoohaaGreatNodOf
set_option linter.unusedVariables false
namespace Go.Proofs.YtfpgekjhcfoohaaGreat
open Go.RowKit
theorem ofLO {v : Value} {l : TL} {w : World} (h : Reads TermLay w v l) (hf : l.length ≤ 1000000) :
 Calls Tryz.prog 84 #[v] w (fun e w' => ∃ x, e = .returned x ∧ Own TermLay 163 w' w.heap.size x l ∧ Kept w w') := by
 obtain ⟨a, cap, rfl, h1, h2, h3⟩ := h
 exact ofSel_own a _ cap l w h3 hf
theorem ofOO {v : Value} {l : NL} {w : World} (h : Reads TaLay w v l) (hf : l.length ≤ 1000000) :
 Calls Tryz.prog 85 #[v] w (fun e w' => ∃ x, e = .returned x ∧ Own TaLay 195 w' w.heap.size x l ∧ Kept w w') := by
 obtain ⟨a, cap, rfl, h1, h2, h3⟩ := h
 exact ofO_own a _ cap l w h3 hf
abbrev PX := Pd × SX × SX × SX × SX
abbrev aggP (z : PX) : Value := PodV z.1 (slV z.2.1) (slV z.2.2.1) (slV z.2.2.2.1) (slV z.2.2.2.2)
def At4 (w : World) (z : PX) : Prop := PodAt w (slV z.2.1) (slV z.2.2.1) (slV z.2.2.2.1) (slV z.2.2.2.2) z.1
def Btw (lo hi : Nat) (a : Option Addr) : Prop := ∀ b off sp, a = some ⟨b, off, sp⟩ → lo ≤ b ∧ b < hi
theorem Btw.up {lo hi lo' hi' : Nat} {a : Option Addr} (h : Btw lo hi a) (h1 : lo' ≤ lo) (h2 : hi ≤ hi') : Btw lo' hi' a := fun b o s e => ⟨Nat.le_trans h1 (h b o s e).1, Nat.lt_of_lt_of_le (h b o s e).2 h2⟩
theorem Btw.behind {lo hi : Nat} {a : Option Addr} (h : Btw lo hi a) : Behind lo a := fun b o s e => (h b o s e).1
def Within4 (lo hi : Nat) (z : PX) : Prop := Btw lo hi z.2.1.1 ∧ Btw lo hi z.2.2.1.1 ∧ Btw lo hi z.2.2.2.1.1 ∧ Btw lo hi z.2.2.2.2.1
theorem Within4.up {lo hi lo' hi' : Nat} {z : PX} (h : Within4 lo hi z) (h1 : lo' ≤ lo) (h2 : hi ≤ hi') : Within4 lo' hi' z := ⟨h.1.up h1 h2, h.2.1.up h1 h2, h.2.2.1.up h1 h2, h.2.2.2.up h1 h2⟩
theorem PodAt.at4 {w : World} {n : Pd} {x1 x2 x3 x4 : SX} (h : PodAt w (slV x1) (slV x2) (slV x3) (slV x4) n) : At4 w (n, x1, x2, x3, x4) := h
set_option maxRecDepth 100000 in
set_option maxHeartbeats 8000000 in
theorem ofP_any (n : Pd) (v1 v2 v3 v4 : Value) (w : World) (h : PodAt w v1 v2 v3 v4 n) (hl : LowPd n) :
 Calls Tryz.prog 23 #[PodV n v1 v2 v3 v4] w fun e w' => ∃ z : PX, e = .returned (aggP z) ∧ z.1 = n ∧ At4 w' z ∧ Within4 w.heap.size w'.heap.size z ∧ Kept w w' := by
 have HH := lH h
 have E1 := lH (fun W (k : Kept w W) => (ofVO (h.need.kept k) hl.need).mono fun _ _ => vec_spelt)
 have E2 := lH (fun W (k : Kept w W) => (ofPO (h.labels.kept k) hl.labels).mono fun _ _ => row_spelt)
 have E3 := lH (fun W (k : Kept w W) => (ofLO (h.sel.kept k) hl.sel).mono fun _ _ => row_spelt)
 have E4 := lH (fun W (k : Kept w W) => (ofOO (h.tols.kept k) hl.tols).mono fun _ _ => row_spelt)
 obtain ⟨⟨x0, x1, x2, l1, l2, l3, l4, x3, x4, x5, x6⟩, hnn⟩ : ∃ m, m = n := ⟨n, rfl⟩
 subst hnn
 dsimp only at E1 E2 E3 E4
 obtain ⟨Y, hY⟩ : ∃ Y, w.alloc (.cells #[.string x0, .string x1, .int .i64 x2, v1, v2, v3, v4, .string x3, .int .i64 x4, .string x5, .bool x6] 49) = Y := ⟨_, rfl⟩
 obtain ⟨W0, hW0⟩ : ∃ Z, (w.alloc (.cells #[.string x0, .string x1, .int .i64 x2, v1, v2, v3, v4, .string x3, .int .i64 x4, .string x5, .bool x6] 49)).alloc (.cells #[.string ⟨#[]⟩, .string ⟨#[]⟩, .int .i64 0, .slice none 0 0, .slice none 0 0, .slice none 0 0, .slice none 0 0, .string ⟨#[]⟩, .int .i64 0, .string ⟨#[]⟩, .bool false] 69) = Z := ⟨_, rfl⟩
 have hk0 : Kept w W0 := by rw [← hW0]; exact kept_two _ _ _
 have hzs : W0.heap.size = w.heap.size + 2 := by rw [← hW0]; simp
 have HB := lH (show ∀ W, Kept W0 W → W.cell? ⟨w.heap.size, 0, none⟩ = some (.string x0) ∧ W.cell? ⟨w.heap.size, 1, none⟩ = some (.string x1) ∧ W.cell? ⟨w.heap.size, 2, none⟩ = some (.int .i64 x2) ∧ W.cell? ⟨w.heap.size, 3, none⟩ = some (v1) ∧ W.cell? ⟨w.heap.size, 4, none⟩ = some (v2) ∧ W.cell? ⟨w.heap.size, 5, none⟩ = some (v3) ∧ W.cell? ⟨w.heap.size, 6, none⟩ = some (v4) ∧ W.cell? ⟨w.heap.size, 7, none⟩ = some (.string x3) ∧ W.cell? ⟨w.heap.size, 8, none⟩ = some (.int .i64 x4) ∧ W.cell? ⟨w.heap.size, 9, none⟩ = some (.string x5) ∧ W.cell? ⟨w.heap.size, 10, none⟩ = some (.bool x6) from fun W k => by
  have := freshN w (.string x0) [.string x1, .int .i64 x2, v1, v2, v3, v4, .string x3, .int .i64 x4, .string x5, .bool x6] 49 W ((by rw [← hW0]; exact kept_alloc _ _ : Kept (w.alloc (.cells #[.string x0, .string x1, .int .i64 x2, v1, v2, v3, v4, .string x3, .int .i64 x4, .string x5, .bool x6] 49)) W0).trans k)
  exact ⟨this.at_ 0 _ rfl, this.at_ 1 _ rfl, this.at_ 2 _ rfl, this.at_ 3 _ rfl, this.at_ 4 _ rfl, this.at_ 5 _ rfl, this.at_ 6 _ rfl, this.at_ 7 _ rfl, this.at_ 8 _ rfl, this.at_ 9 _ rfl, this.at_ 10 _ rfl⟩)
 have HQ := lH (show ∀ W, Kept W0 W → CellsN (w.heap.size + 1) [.string ⟨#[]⟩, .string ⟨#[]⟩, .int .i64 0, .slice none 0 0, .slice none 0 0, .slice none 0 0, .slice none 0 0, .string ⟨#[]⟩, .int .i64 0, .string ⟨#[]⟩, .bool false] W from fun W k => by
  have := freshN (w.alloc (.cells #[.string x0, .string x1, .int .i64 x2, v1, v2, v3, v4, .string x3, .int .i64 x4, .string x5, .bool x6] 49)) (.string ⟨#[]⟩) [.string ⟨#[]⟩, .int .i64 0, .slice none 0 0, .slice none 0 0, .slice none 0 0, .slice none 0 0, .string ⟨#[]⟩, .int .i64 0, .string ⟨#[]⟩, .bool false] 69 W (by rw [hW0]; exact k)
  rw [World.size_alloc] at this
  exact this)
 have HZ := lH hzs
 have HK0 := lH hk0
 obtain ⟨b0, b1, b2, b3, b4, b5, b6, b7, b8, b9, b10⟩ := HB.out _ (Kept.refl _)
 clear h hl hk0 hzs hY Y
 unfold PodV
 dsimp only
 go_enter Tryz.func23, Tryz.ntmps23
 go_wp2
 try rw [hW0]
 clear hW0
 refine wp_region_held_drew (S := fun W => W.cell? ⟨w.heap.size, 0, none⟩ = some (.string x0) ∧ W.cell? ⟨w.heap.size, 1, none⟩ = some (.string x1) ∧ W.cell? ⟨w.heap.size, 2, none⟩ = some (.int .i64 x2) ∧ W.cell? ⟨w.heap.size, 3, none⟩ = some (v1) ∧ W.cell? ⟨w.heap.size, 4, none⟩ = some (v2) ∧ W.cell? ⟨w.heap.size, 5, none⟩ = some (v3) ∧ W.cell? ⟨w.heap.size, 6, none⟩ = some (v4) ∧ W.cell? ⟨w.heap.size, 7, none⟩ = some (.string x3) ∧ W.cell? ⟨w.heap.size, 8, none⟩ = some (.int .i64 x4) ∧ W.cell? ⟨w.heap.size, 9, none⟩ = some (.string x5) ∧ W.cell? ⟨w.heap.size, 10, none⟩ = some (.bool x6)) (by kernel_rfl) (HB.out _ (Kept.drew _)) (fun hHeld => ?_)
 refine tkH 0 (v := ?_) (y := Or.inl ⟨by rfl, (by rintro W ⟨q0, q1, q2, q3, q4, q5, q6, q7, q8, q9, q10⟩; go_simp <;> with_reducible rfl)⟩) (h := ?_)
 try simp only [nP]
 refine tkH 1 (v := ?_) (y := Or.inl ⟨by rfl, (by rintro W ⟨q0, q1, q2, q3, q4, q5, q6, q7, q8, q9, q10⟩; go_simp <;> with_reducible rfl)⟩) (h := ?_)
 try simp only [nP]
 refine tkH 2 (v := ?_) (y := Or.inl ⟨by rfl, (by rintro W ⟨q0, q1, q2, q3, q4, q5, q6, q7, q8, q9, q10⟩; go_simp <;> with_reducible rfl)⟩) (h := ?_)
 try simp only [nP]
 refine tkH 3 (v := ?_) (y := Or.inl ⟨by rfl, (by rintro W ⟨q0, q1, q2, q3, q4, q5, q6, q7, q8, q9, q10⟩; go_simp <;> with_reducible rfl)⟩) (h := ?_)
 try simp only [nP]
 refine tkH 4 (v := ?_) (y := Or.inl ⟨by rfl, (by rintro W ⟨q0, q1, q2, q3, q4, q5, q6, q7, q8, q9, q10⟩; go_simp <;> with_reducible rfl)⟩) (h := ?_)
 try simp only [nP]
 refine tkH 5 (v := ?_) (y := Or.inl ⟨by rfl, (by rintro W ⟨q0, q1, q2, q3, q4, q5, q6, q7, q8, q9, q10⟩; go_simp <;> with_reducible rfl)⟩) (h := ?_)
 try simp only [nP]
 refine tkH 6 (v := ?_) (y := Or.inl ⟨by rfl, (by rintro W ⟨q0, q1, q2, q3, q4, q5, q6, q7, q8, q9, q10⟩; go_simp <;> with_reducible rfl)⟩) (h := ?_)
 try simp only [nP]
 refine tkH 7 (v := ?_) (y := Or.inl ⟨by rfl, (by rintro W ⟨q0, q1, q2, q3, q4, q5, q6, q7, q8, q9, q10⟩; go_simp <;> with_reducible rfl)⟩) (h := ?_)
 try simp only [nP]
 refine tkH 9 (v := ?_) (y := Or.inl ⟨by rfl, (by rintro W ⟨q0, q1, q2, q3, q4, q5, q6, q7, q8, q9, q10⟩; go_simp <;> with_reducible rfl)⟩) (h := ?_)
 try simp only [nP]
 refine tkH 10 (v := ?_) (y := Or.inl ⟨by rfl, (by rintro W ⟨q0, q1, q2, q3, q4, q5, q6, q7, q8, q9, q10⟩; go_simp <;> with_reducible rfl)⟩) (h := ?_)
 try simp only [nP]
 refine tkH 12 (v := ?_) (y := Or.inl ⟨by rfl, (by rintro W ⟨q0, q1, q2, q3, q4, q5, q6, q7, q8, q9, q10⟩; go_simp <;> with_reducible rfl)⟩) (h := ?_)
 try simp only [nP]
 refine tkH 13 (v := ?_) (y := Or.inl ⟨by rfl, (by rintro W ⟨q0, q1, q2, q3, q4, q5, q6, q7, q8, q9, q10⟩; go_simp <;> with_reducible rfl)⟩) (h := ?_)
 try simp only [nP]
 refine tkH 15 (v := ?_) (y := Or.inl ⟨by rfl, (by rintro W ⟨q0, q1, q2, q3, q4, q5, q6, q7, q8, q9, q10⟩; go_simp <;> with_reducible rfl)⟩) (h := ?_)
 try simp only [nP]
 refine tkH 16 (v := ?_) (y := Or.inl ⟨by rfl, (by rintro W ⟨q0, q1, q2, q3, q4, q5, q6, q7, q8, q9, q10⟩; go_simp <;> with_reducible rfl)⟩) (h := ?_)
 try simp only [nP]
 refine tkH 18 (v := ?_) (y := Or.inl ⟨by rfl, (by rintro W ⟨q0, q1, q2, q3, q4, q5, q6, q7, q8, q9, q10⟩; go_simp <;> with_reducible rfl)⟩) (h := ?_)
 try simp only [nP]
 refine tkH 19 (v := ?_) (y := Or.inl ⟨by rfl, (by rintro W ⟨q0, q1, q2, q3, q4, q5, q6, q7, q8, q9, q10⟩; go_simp <;> with_reducible rfl)⟩) (h := ?_)
 try simp only [nP]
 refine tkH 20 (v := ?_) (y := Or.inl ⟨by rfl, (by rintro W ⟨q0, q1, q2, q3, q4, q5, q6, q7, q8, q9, q10⟩; go_simp <;> with_reducible rfl)⟩) (h := ?_)
 try simp only [nP]
 refine tkH 21 (v := ?_) (y := Or.inl ⟨by rfl, (by rintro W ⟨q0, q1, q2, q3, q4, q5, q6, q7, q8, q9, q10⟩; go_simp <;> with_reducible rfl)⟩) (h := ?_)
 try simp only [nP]
 refine tkH 22 (v := ?_) (y := Or.inl ⟨by rfl, (by rintro W ⟨q0, q1, q2, q3, q4, q5, q6, q7, q8, q9, q10⟩; go_simp <;> with_reducible rfl)⟩) (h := ?_)
 try simp only [nP]
 refine tkH 23 (v := ?_) (y := Or.inl ⟨by rfl, (by rintro W ⟨q0, q1, q2, q3, q4, q5, q6, q7, q8, q9, q10⟩; go_simp <;> with_reducible rfl)⟩) (h := ?_)
 try simp only [nP]
 refine tkH 24 (v := ?_) (y := Or.inl ⟨by rfl, (by rintro W ⟨q0, q1, q2, q3, q4, q5, q6, q7, q8, q9, q10⟩; go_simp <;> with_reducible rfl)⟩) (h := ?_)
 try simp only [nP]
 refine tkH 25 (v := ?_) (y := Or.inl ⟨by rfl, (by rintro W ⟨q0, q1, q2, q3, q4, q5, q6, q7, q8, q9, q10⟩; go_simp <;> with_reducible rfl)⟩) (h := ?_)
 try simp only [nP]
 refine rdH (rs := [8]) (h := coH (fun K9 hK9 => ?_) AllReadyH.nil)
 go_simp
 refine (E1.out _ (HK0.out.trans (Kept.drew _))).mono ?_
 rintro e1 w1 ⟨b1, n1, d1, rfl, r1, g1, k1⟩
 have K1 := lH (Kept.trans (Kept.drew _) k1)
 have G1 := lH (show Btw (w.heap.size + 2) w1.heap.size b1 from fun b o s e => ⟨Nat.le_trans (by rw [← HZ.out]; exact Below.size (Kept.drew _)) (g1 b o s e).1, (g1 b o s e).2⟩)
 have R1 := lH r1
 clear k1 r1 g1
 refine hK9.out _ _ (HB.out _ K1.out) (fun hHeld1 => ?_)
 clear hK9 K9
 try simp only [nP]
 refine rdH (rs := [11]) (h := coH (fun K9 hK9 => ?_) AllReadyH.nil)
 go_simp
 refine (E2.out _ (HK0.out.trans K1.out)).mono ?_
 rintro e2 w2 ⟨b2, n2, d2, rfl, r2, g2, k2⟩
 have K2 := lH (Kept.trans K1.out k2)
 have G2 := lH (show Btw (w.heap.size + 2) w2.heap.size b2 from fun b o s e => ⟨Nat.le_trans (by rw [← HZ.out]; exact Below.size K1.out) (g2 b o s e).1, (g2 b o s e).2⟩)
 have R2 := lH r2
 have R1 := lH (R1.out.kept k2)
 have G1 := lH (G1.out.up (Nat.le_refl _) k2.size)
 clear k2 r2 g2
 refine hK9.out _ _ (HB.out _ K2.out) (fun hHeld2 => ?_)
 clear hK9 K9
 try simp only [nP]
 refine rdH (rs := [14]) (h := coH (fun K9 hK9 => ?_) AllReadyH.nil)
 go_simp
 refine (E3.out _ (HK0.out.trans K2.out)).mono ?_
 rintro e3 w3 ⟨b3, n3, d3, rfl, r3, g3, k3⟩
 have K3 := lH (Kept.trans K2.out k3)
 have G3 := lH (show Btw (w.heap.size + 2) w3.heap.size b3 from fun b o s e => ⟨Nat.le_trans (by rw [← HZ.out]; exact Below.size K2.out) (g3 b o s e).1, (g3 b o s e).2⟩)
 have R3 := lH r3
 have R1 := lH (R1.out.kept k3)
 have G1 := lH (G1.out.up (Nat.le_refl _) k3.size)
 have R2 := lH (R2.out.kept k3)
 have G2 := lH (G2.out.up (Nat.le_refl _) k3.size)
 clear k3 r3 g3
 refine hK9.out _ _ (HB.out _ K3.out) (fun hHeld3 => ?_)
 clear hK9 K9
 try simp only [nP]
 refine rdH (rs := [17]) (h := coH (fun K9 hK9 => ?_) AllReadyH.nil)
 go_simp
 refine (E4.out _ (HK0.out.trans K3.out)).mono ?_
 rintro e4 w4 ⟨b4, n4, d4, rfl, r4, g4, k4⟩
 have K4 := lH (Kept.trans K3.out k4)
 have G4 := lH (show Btw (w.heap.size + 2) w4.heap.size b4 from fun b o s e => ⟨Nat.le_trans (by rw [← HZ.out]; exact Below.size K3.out) (g4 b o s e).1, (g4 b o s e).2⟩)
 have R4 := lH r4
 have R1 := lH (R1.out.kept k4)
 have G1 := lH (G1.out.up (Nat.le_refl _) k4.size)
 have R2 := lH (R2.out.kept k4)
 have G2 := lH (G2.out.up (Nat.le_refl _) k4.size)
 have R3 := lH (R3.out.kept k4)
 have G3 := lH (G3.out.up (Nat.le_refl _) k4.size)
 clear k4 r4 g4
 refine hK9.out _ _ (HB.out _ K4.out) (fun hHeld4 => ?_)
 clear hK9 K9
 try simp only [nP]
 refine tkH 26 (v := ?_) (y := Or.inl ⟨by rfl, (by rintro W ⟨q0, q1, q2, q3, q4, q5, q6, q7, q8, q9, q10⟩; go_simp <;> with_reducible rfl)⟩) (h := ?_)
 try simp only [nP]
 have HQ4 := lH (HQ.out _ K4.out)
 have z0 := HQ4.out.at_ 0 _ rfl
 have z1 := HQ4.out.at_ 1 _ rfl
 have z2 := HQ4.out.at_ 2 _ rfl
 have z3 := HQ4.out.at_ 3 _ rfl
 have z4 := HQ4.out.at_ 4 _ rfl
 have z5 := HQ4.out.at_ 5 _ rfl
 have z6 := HQ4.out.at_ 6 _ rfl
 have z7 := HQ4.out.at_ 7 _ rfl
 have z8 := HQ4.out.at_ 8 _ rfl
 have z9 := HQ4.out.at_ 9 _ rfl
 have z10 := HQ4.out.at_ 10 _ rfl
 have f0 := HQ4.out.free 0
 have f1 := HQ4.out.free 1
 have f2 := HQ4.out.free 2
 have f3 := HQ4.out.free 3
 have f4 := HQ4.out.free 4
 have f5 := HQ4.out.free 5
 have f6 := HQ4.out.free 6
 have f7 := HQ4.out.free 7
 have f8 := HQ4.out.free 8
 have f9 := HQ4.out.free 9
 have f10 := HQ4.out.free 10
 refine rdH (rs := [27]) (h := coH (fun K9 hK9 => ?_) AllReadyH.nil)
 go_simp
 refine hK9.out _ _ (eleven_past (HB.out _ K4.out) (by omega)) (fun hHeldS => ?_)
 clear hK9 K9 hHeldS
 try simp only [nP]
 refine wpAnyH_done (by kernel_rfl) ?_ _
 have P := lH (putN (vs := [.string x0, .string x1, .int .i64 x2, .slice b1 n1 d1, .slice b2 n2 d2, .slice b3 n3 d3, .slice b4 n4 d4, .string x3, .int .i64 x4, .string x5, .bool x6]) HQ4.out rfl)
 clear z0 f0 z1 f1 z2 f2 z3 f3 z4 f4 z5 f5 z6 f6 z7 f7 z8 f8 z9 f9 z10 f10
 go_wp2
 (try simp only [Exit.inBlock, Exit.then])
 obtain ⟨WE, hWE⟩ : ∃ W, w4.setCells (w.heap.size + 1) 0 [.string x0, .string x1, .int .i64 x2, .slice b1 n1 d1, .slice b2 n2 d2, .slice b3 n3 d3, .slice b4 n4 d4, .string x3, .int .i64 x4, .string x5, .bool x6] = W := ⟨_, rfl⟩
 have hWE2 : (((((((((((w4.setCell ⟨w.heap.size + 1, 0, none⟩ (.string x0)).setCell ⟨w.heap.size + 1, 1, none⟩ (.string x1)).setCell ⟨w.heap.size + 1, 2, none⟩ (.int .i64 x2)).setCell ⟨w.heap.size + 1, 3, none⟩ (.slice b1 n1 d1)).setCell ⟨w.heap.size + 1, 4, none⟩ (.slice b2 n2 d2)).setCell ⟨w.heap.size + 1, 5, none⟩ (.slice b3 n3 d3)).setCell ⟨w.heap.size + 1, 6, none⟩ (.slice b4 n4 d4)).setCell ⟨w.heap.size + 1, 7, none⟩ (.string x3)).setCell ⟨w.heap.size + 1, 8, none⟩ (.int .i64 x4)).setCell ⟨w.heap.size + 1, 9, none⟩ (.string x5)).setCell ⟨w.heap.size + 1, 10, none⟩ (.bool x6)) = WE := hWE
 rw [hWE] at P
 rw [hWE2]
 clear hWE hWE2
 obtain ⟨PC, hsz, hbl, hkp⟩ := P.out
 refine bodyPost_ret (by simp [results, Tryz.results23, go_sem, PC.at_ 0 _ rfl, PC.at_ 1 _ rfl, PC.at_ 2 _ rfl, PC.at_ 3 _ rfl, PC.at_ 4 _ rfl, PC.at_ 5 _ rfl, PC.at_ 6 _ rfl, PC.at_ 7 _ rfl, PC.at_ 8 _ rfl, PC.at_ 9 _ rfl, PC.at_ 10 _ rfl]; try rfl) rfl ?_
 refine ⟨(⟨x0, x1, x2, l1, l2, l3, l4, x3, x4, x5, x6⟩, (b1, n1, d1), (b2, n2, d2), (b3, n3, d3), (b4, n4, d4)), rfl, rfl, PodAt.at4 (PodAt.far (B := w.heap.size + 2) (n := ⟨x0, x1, x2, l1, l2, l3, l4, x3, x4, x5, x6⟩) ⟨HH.out.name, HH.out.owner, HH.out.key, HH.out.node, HH.out.prio, HH.out.most, R1.out, R2.out, R3.out, R4.out⟩ hsz (fun b hb => hbl b (by omega)) G1.out.behind G2.out.behind G3.out.behind G4.out.behind), ?_, hkp _ _ (by omega) (HK0.out.trans K4.out)⟩
 rw [hsz]
 exact ⟨G1.out.up (by omega) (Nat.le_refl _), G2.out.up (by omega) (Nat.le_refl _), G3.out.up (by omega) (Nat.le_refl _), G4.out.up (by omega) (Nat.le_refl _)⟩
theorem ofPdR {v : Value} {n : Pd} {w : World} (h : PodR w v n) (hl : LowPd n) : Calls Tryz.prog 23 #[v] w fun e w' => ∃ v, e = .returned v ∧ PodR w' v n ∧ Kept w w' := by
 obtain ⟨v1, v2, v3, v4, rfl, h⟩ := h
 refine (ofP_any n v1 v2 v3 v4 w h hl).mono ?_
 rintro e w' ⟨z, rfl, rfl, hz, -, k⟩
 exact ⟨_, rfl, ⟨_, _, _, _, rfl, hz⟩, k⟩
end Go.Proofs.YtfpgekjhcfoohaaGreat
