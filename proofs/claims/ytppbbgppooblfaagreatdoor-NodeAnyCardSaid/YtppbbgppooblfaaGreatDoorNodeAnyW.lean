/- NodeAny: the walk. -/
import Derived.Test.YtppbbgppooblfaaGreatDoorNodShort
import Derived.Test.YtppbbgppooblfaaGreatDoorNodTold
import Derived.Test.YtppbbgppooblfaaGreatDoorNodRefText
import Derived.Test.YtppbbgppooblfaaGreatDoorNodC
import Derived.Test.YtppbbgppooblfaaGreatDoorBase
import Derived.Deep.RegionWith
import Derived.Deep.CutRange
namespace Go.Proofs.YtppbbgppooblfaaGreatDoor
open Go.RowKit
set_option linter.unusedVariables false

theorem ofN_sp (n : Nod) (v1 v2 v3 : Value) (w : World) (h : NodAt w v1 v2 v3 n) (hl : LowNod n) :
    Calls Tryz.prog 42 #[NodV n v1 v2 v3] w fun e w' => ∃ b1 n1 d1 b2 n2 d2 b3 n3 d3, e = .returned (.agg #[.string n.name, .slice b1 n1 d1, .slice b2 n2 d2, .slice b3 n3 d3, .bool n.cordon]) ∧ NodAt w' (.slice b1 n1 d1) (.slice b2 n2 d2) (.slice b3 n3 d3) n ∧ Kept w w' := by
  refine (ofN_any n v1 v2 v3 w h hl).mono ?_
  rintro e w' ⟨⟨n', ⟨b1, n1, d1⟩, ⟨b2, n2, d2⟩, ⟨b3, n3, d3⟩⟩, rfl, he, hz, -, k⟩
  have he' : n' = n := he
  subst he'
  exact ⟨b1, n1, d1, b2, n2, d2, b3, n3, d3, rfl, hz, k⟩
/-- A node's block of zero cells. -/
def ZBlk (q : Nat) (W : World) : Prop := W.heap[q]? = some (.cells #[.string ⟨#[]⟩, .slice none 0 0, .slice none 0 0, .slice none 0 0, .bool false] 58)
theorem ZBlk.kept {q : Nat} {W W' : World} (h : ZBlk q W) (k : Kept W W') : ZBlk q W' := (k.block q (Array.getElem?_eq_some_iff.1 h).1).trans h
theorem ZBlk.far {q : Nat} {W W' : World} (h : ZBlk q W) (e : W'.heap[q]? = W.heap[q]?) : ZBlk q W' := Eq.trans e h
theorem ZBlk.cells {q : Nat} {W : World} (h : ZBlk q W) : CellsN q [.string ⟨#[]⟩, .slice none 0 0, .slice none 0 0, .slice none 0 0, .bool false] W := ⟨fun i v hv => by rw [Lib.cell_of_heap h]; simpa using hv, fun i => by
  unfold World.frozen?
  rw [show W.heap[(⟨q, i, none⟩ : Addr).block]? = some (.cells #[.string ⟨#[]⟩, .slice none 0 0, .slice none 0 0, .slice none 0 0, .bool false] 58) from h]
  simp⟩
theorem ZBlk.new (W : World) : ZBlk W.heap.size (W.alloc (.cells #[.string ⟨#[]⟩, .slice none 0 0, .slice none 0 0, .slice none 0 0, .bool false] 58)) := W.alloc_heap_new (.cells #[.string ⟨#[]⟩, .slice none 0 0, .slice none 0 0, .slice none 0 0, .bool false] 58)
theorem ZBlk.lt {q : Nat} {W : World} (h : ZBlk q W) : q < W.heap.size := (Array.getElem?_eq_some_iff.1 h).1
theorem ZBlk.norow {q : Nat} {W : World} (h : ZBlk q W) : NoRow W q := no_row h

set_option maxRecDepth 100000 in
set_option maxHeartbeats 16000000 in
theorem NodeAny_walk (v0 : Value) (a : Nod) (v1 : Value) (b : Nod) (w : World) (hE : Vec.EnvT w) (h0 : NodR w v0 a) (h1 : NodR w v1 b) :
    Calls Tryz.prog 5 #[v0, v1] w fun e w' => e = .returned (.bool true) ∧ Kept w w' := by
  obtain ⟨va1, va2, va3, rfl, ha⟩ := h0
  obtain ⟨vb1, vb2, vb3, rfl, hb⟩ := h1
  obtain ⟨xa, la1, la2, la3, ca⟩ := a
  obtain ⟨xb, lb1, lb2, lb3, cb⟩ := b
  obtain ⟨W0, hW0⟩ : ∃ W0, (w.alloc (.cells #[.string xa, va1, va2, va3, .bool ca] 53)).alloc (.cells #[.string xb, vb1, vb2, vb3, .bool cb] 53) = W0 := ⟨_, rfl⟩
  have hk0 : Kept w W0 := by rw [← hW0]; exact kept_two _ _ _
  have HC0 := Lib.hid (show ∀ W, Kept W0 W → W.cell? ⟨w.heap.size, 0, none⟩ = some (.string xa) ∧ W.cell? ⟨w.heap.size, 1, none⟩ = some (va1) ∧ W.cell? ⟨w.heap.size, 2, none⟩ = some (va2) ∧ W.cell? ⟨w.heap.size, 3, none⟩ = some (va3) ∧ W.cell? ⟨w.heap.size, 4, none⟩ = some (.bool ca) ∧ W.cell? ⟨(w.heap.size + 1), 0, none⟩ = some (.string xb) ∧ W.cell? ⟨(w.heap.size + 1), 1, none⟩ = some (vb1) ∧ W.cell? ⟨(w.heap.size + 1), 2, none⟩ = some (vb2) ∧ W.cell? ⟨(w.heap.size + 1), 3, none⟩ = some (vb3) ∧ W.cell? ⟨(w.heap.size + 1), 4, none⟩ = some (.bool cb) from fun W k => by
    have c := freshN w (.string xa) [va1, va2, va3, .bool ca] 53 W (by rw [← hW0] at k; exact (kept_alloc _ _).trans k)
    have d := freshN (w.alloc (.cells #[.string xa, va1, va2, va3, .bool ca] 53)) (.string xb) [vb1, vb2, vb3, .bool cb] 53 W (by rw [hW0]; exact k)
    rw [World.size_alloc] at d
    exact ⟨(c).at_ 0 _ rfl, (c).at_ 1 _ rfl, (c).at_ 2 _ rfl, (c).at_ 3 _ rfl, (c).at_ 4 _ rfl, (d).at_ 0 _ rfl, (d).at_ 1 _ rfl, (d).at_ 2 _ rfl, (d).at_ 3 _ rfl, (d).at_ 4 _ rfl⟩)
  have HKN := Lib.hid (Nk.known_any W0 (hE.kept hk0))
  have RA := Lib.hid (fun W (k : Kept W0 W) => show NodR W (.agg #[.string xa, va1, va2, va3, .bool ca]) ⟨xa, la1, la2, la3, ca⟩ from ⟨_, _, _, rfl, ha.kept (hk0.trans k)⟩)
  have RB := Lib.hid (fun W (k : Kept W0 W) => show NodR W (.agg #[.string xb, vb1, vb2, vb3, .bool cb]) ⟨xb, lb1, lb2, lb3, cb⟩ from ⟨_, _, _, rfl, hb.kept (hk0.trans k)⟩)
  have HOA0 := Lib.hid (fun W (k : Kept W0 W) (hl : LowNod ⟨xa, la1, la2, la3, ca⟩) => ofN_sp ⟨xa, la1, la2, la3, ca⟩ va1 va2 va3 W (ha.kept (hk0.trans k)) hl)
  have HOB0 := Lib.hid (fun W (k : Kept W0 W) (hl : LowNod ⟨xb, lb1, lb2, lb3, cb⟩) => ofN_sp ⟨xb, lb1, lb2, lb3, cb⟩ vb1 vb2 vb3 W (hb.kept (hk0.trans k)) hl)
  have HFV := Lib.hid (ha.cap.fine)
  have HE := Lib.hid (hE.kept hk0)
  have HK0 := Lib.hid hk0
  obtain ⟨fa, hfa⟩ : ∃ f, fewNod ⟨xa, la1, la2, la3, ca⟩ = f := ⟨_, rfl⟩
  obtain ⟨fb, hfb⟩ : ∃ f, fewNod ⟨xb, lb1, lb2, lb3, cb⟩ = f := ⟨_, rfl⟩
  have FA := Lib.hid hfa
  have FB := Lib.hid hfb
  clear ha hb hk0 hE hfa hfb
  unfold NodV at HOA0 HOB0 ⊢
  dsimp only at HOA0 HOB0 ⊢
  obtain ⟨q0, q1, q2, q3, q4, r0, r1, r2, r3, r4⟩ := HC0.out _ (Kept.refl _)
  cases fa with
  | false =>
    go_enter Tryz.func5, Tryz.ntmps5
    go_wp2_with fail
    try rw [hW0]
    refine HKN.out.mono ?_
    rintro e w1 ⟨rfl, k⟩
    have K := Lib.hid k
    clear k q0 q1 q2 q3 q4 r0 r1 r2 r3 r4
    obtain ⟨q0, q1, q2, q3, q4, r0, r1, r2, r3, r4⟩ := HC0.out _ K.out
    go_wp2_with fail
    refine (fewNodR (RA.out _ K.out) FA.out).mono ?_
    rintro e w2 ⟨rfl, k⟩
    have K := Lib.hid (K.out.trans k)
    clear k
    go_wp2
    go_ret
    exact ⟨rfl, HK0.out.trans K.out⟩
  | true =>
    cases fb with
    | false =>
      go_enter Tryz.func5, Tryz.ntmps5
      go_wp2_with fail
      try rw [hW0]
      refine HKN.out.mono ?_
      rintro e w1 ⟨rfl, k⟩
      have K := Lib.hid k
      clear k q0 q1 q2 q3 q4 r0 r1 r2 r3 r4
      obtain ⟨q0, q1, q2, q3, q4, r0, r1, r2, r3, r4⟩ := HC0.out _ K.out
      go_wp2_with fail
      refine (fewNodR (RA.out _ K.out) FA.out).mono ?_
      rintro e w2 ⟨rfl, k⟩
      have K := Lib.hid (K.out.trans k)
      clear k q0 q1 q2 q3 q4 r0 r1 r2 r3 r4
      obtain ⟨q0, q1, q2, q3, q4, r0, r1, r2, r3, r4⟩ := HC0.out _ K.out
      go_wp2_with fail
      refine (fewNodR (RB.out _ K.out) FB.out).mono ?_
      rintro e w3 ⟨rfl, k⟩
      have K := Lib.hid (K.out.trans k)
      clear k
      go_wp2
      go_ret
      exact ⟨rfl, HK0.out.trans K.out⟩
    | true =>
      have HLA := Lib.hid (few_low FA.out)
      have HLB := Lib.hid (few_low FB.out)
      have HMA := Lib.hid (few_midN FA.out)
      have HOA1 := Lib.hid (fun W k => HOA0.out W k HLA.out)
      have HOB1 := Lib.hid (fun W k => HOB0.out W k HLB.out)
      obtain ⟨ck, hck⟩ : ∃ x, chkNod ⟨xa, la1, la2, la3, ca⟩ = x := ⟨_, rfl⟩
      obtain ⟨sm, hsm⟩ : ∃ x, sameN ⟨xa, la1, la2, la3, ca⟩ ⟨xb, lb1, lb2, lb3, cb⟩ = x := ⟨_, rfl⟩
      have HCK := Lib.hid hck
      have HSM := Lib.hid hsm
      clear hck hsm HOA0 HOB0
      go_enter Tryz.func5, Tryz.ntmps5
      go_wp2_with fail
      try rw [hW0]
      refine HKN.out.mono ?_
      rintro e w1 ⟨rfl, k⟩
      have K := Lib.hid k
      clear k q0 q1 q2 q3 q4 r0 r1 r2 r3 r4
      obtain ⟨q0, q1, q2, q3, q4, r0, r1, r2, r3, r4⟩ := HC0.out _ K.out
      go_wp2_with fail
      refine (fewNodR (RA.out _ K.out) FA.out).mono ?_
      rintro e w2 ⟨rfl, k⟩
      have K := Lib.hid (K.out.trans k)
      clear k q0 q1 q2 q3 q4 r0 r1 r2 r3 r4
      obtain ⟨q0, q1, q2, q3, q4, r0, r1, r2, r3, r4⟩ := HC0.out _ K.out
      go_wp2_with fail
      refine (fewNodR (RB.out _ K.out) FB.out).mono ?_
      rintro e w1 ⟨rfl, k⟩
      have K := Lib.hid (K.out.trans k)
      have HC := Lib.hid (fun W (k : Kept w1 W) => HC0.out W (K.out.trans k))
      have HOA := Lib.hid (fun W (k : Kept w1 W) => HOA1.out W (K.out.trans k))
      have HOB := Lib.hid (fun W (k : Kept w1 W) => HOB1.out W (K.out.trans k))
      clear k q0 q1 q2 q3 q4 r0 r1 r2 r3 r4 hW0
      go_wp2
      go_cut [5, 6] from 20 to 24 (fun s5 s6 wx => ∃ p q, s5 = .pointer (some ⟨p, 0, none⟩) ∧ s6 = .pointer (some ⟨q, 0, none⟩) ∧ ∃ a1 m1 c1 a2 m2 c2 a3 m3 c3 b1 n1 d1 b2 n2 d2 b3 n3 d3, CellsN p [.string xa, .slice a1 m1 c1, .slice a2 m2 c2, .slice a3 m3 c3, .bool ca] wx ∧ CellsN q [.string xb, .slice b1 n1 d1, .slice b2 n2 d2, .slice b3 n3 d3, .bool cb] wx ∧ NodAt wx (.slice a1 m1 c1) (.slice a2 m2 c2) (.slice a3 m3 c3) ⟨xa, la1, la2, la3, ca⟩ ∧ NodAt wx (.slice b1 n1 d1) (.slice b2 n2 d2) (.slice b3 n3 d3) ⟨xb, lb1, lb2, lb3, cb⟩ ∧ Kept w1 wx)
      case first =>
        refine wp_region_held_drew (S := fun W => Kept w1 W) (by kernel_rfl) (Kept.drew _) (fun hHeld => ?_)
        have KK := Lib.hid hHeld
        obtain ⟨wd, hwd⟩ : ∃ W, w1.drew = W := ⟨_, rfl⟩
        rw [hwd] at KK hHeld ⊢
        clear hwd
        refine wpAnyH_take (i := 0) (v := ?_) (by rw [List.getElem?_toArray]; exact rfl) (by kernel_rfl) (by kernel_rfl) (by kernel_rfl) (by exact fun _ _ _ h => h) (Or.inl ⟨by rfl, (by intro W hSw; obtain ⟨q0, q1, q2, q3, q4, r0, r1, r2, r3, r4⟩ := HC.out _ hSw; go_simp <;> with_reducible rfl)⟩) (by assumption) ?_
        try simp only [Act.put, List.setIfInBounds_toArray, List.set_cons_zero, List.set_cons_succ]
        refine wpAnyH_take (i := 2) (v := ?_) (by rw [List.getElem?_toArray]; exact rfl) (by kernel_rfl) (by kernel_rfl) (by kernel_rfl) (by exact fun _ _ _ h => h) (Or.inl ⟨by rfl, (by intro W hSw; obtain ⟨q0, q1, q2, q3, q4, r0, r1, r2, r3, r4⟩ := HC.out _ hSw; go_simp <;> with_reducible rfl)⟩) (by assumption) ?_
        try simp only [Act.put, List.setIfInBounds_toArray, List.set_cons_zero, List.set_cons_succ]
        refine wpAnyH_ready (rs := [1, 4, 5]) (by kernel_rfl) (by simp) (AllReadyH.cons (by rw [List.getElem?_toArray]; exact rfl) (fun K9 hK9 => ?_) (AllReadyH.cons (by rw [List.getElem?_toArray]; exact rfl) (fun K9 hK9 => ?_) (AllReadyH.cons (by rw [List.getElem?_toArray]; exact rfl) (fun K9 hK9 => ?_) AllReadyH.nil)))
        · skip
          go_simp
          refine (HOA.out _ KK.out).mono ?_
          rintro e9 ww1 ⟨a1, m1, c1, a2, m2, c2, a3, m3, c3, rfl, hz, k⟩
          have KK := Lib.hid (KK.out.trans k)
          have ZA := Lib.hid hz
          clear hz k
          refine hK9.out _ _ KK.out (fun hHeld2 => ?_)
          clear hK9 K9
          try simp only [Act.put, List.setIfInBounds_toArray, List.set_cons_zero, List.set_cons_succ]
          refine wpAnyH_ready (rs := [3, 4, 5]) (by kernel_rfl) (by simp) (AllReadyH.cons (by rw [List.getElem?_toArray]; exact rfl) (fun K9 hK9 => ?_) (AllReadyH.cons (by rw [List.getElem?_toArray]; exact rfl) (fun K9 hK9 => ?_) (AllReadyH.cons (by rw [List.getElem?_toArray]; exact rfl) (fun K9 hK9 => ?_) AllReadyH.nil)))
          · skip
            go_simp
            refine (HOB.out _ KK.out).mono ?_
            rintro e9 ww3 ⟨b1, n1, d1, b2, n2, d2, b3, n3, d3, rfl, hz, k⟩
            have KK := Lib.hid (KK.out.trans k)
            have ZA := Lib.hid (ZA.out.kept k)
            have ZB := Lib.hid hz
            clear hz k
            refine hK9.out _ _ KK.out (fun hHeld4 => ?_)
            clear hK9 K9
            try simp only [Act.put, List.setIfInBounds_toArray, List.set_cons_zero, List.set_cons_succ]
            refine wpAnyH_ready (rs := [4, 5]) (by kernel_rfl) (by simp) (AllReadyH.cons (by rw [List.getElem?_toArray]; exact rfl) (fun K9 hK9 => ?_) (AllReadyH.cons (by rw [List.getElem?_toArray]; exact rfl) (fun K9 hK9 => ?_) AllReadyH.nil))
            · skip
              go_simp
              have k := kept_alloc ww3 (.cells #[.string ⟨#[]⟩, .slice none 0 0, .slice none 0 0, .slice none 0 0, .bool false] 58)
              have hn := ZBlk.new ww3
              have hp9 : w1.heap.size ≤ ww3.heap.size := KK.out.size
              obtain ⟨p, hpe⟩ : ∃ z, ww3.heap.size = z := ⟨_, rfl⟩
              rw [hpe] at hn hp9 ⊢
              obtain ⟨ww5, hnw⟩ : ∃ W, ww3.alloc (.cells #[.string ⟨#[]⟩, .slice none 0 0, .slice none 0 0, .slice none 0 0, .bool false] 58) = W := ⟨_, rfl⟩
              rw [hnw] at hn k ⊢
              clear hnw hpe
              have KK := Lib.hid (KK.out.trans k)
              have ZA := Lib.hid (ZA.out.kept k)
              have ZB := Lib.hid (ZB.out.kept k)
              have QA := Lib.hid hn
              have HAP := Lib.hid hp9
              clear hn k hp9
              refine hK9.out _ _ KK.out (fun hHeld6 => ?_)
              clear hK9 K9
              try simp only [Act.put, List.setIfInBounds_toArray, List.set_cons_zero, List.set_cons_succ]
              refine wpAnyH_ready (rs := [5]) (by kernel_rfl) (by simp) (AllReadyH.cons (by rw [List.getElem?_toArray]; exact rfl) (fun K9 hK9 => ?_) AllReadyH.nil)
              go_simp
              have k := kept_alloc ww5 (.cells #[.string ⟨#[]⟩, .slice none 0 0, .slice none 0 0, .slice none 0 0, .bool false] 58)
              have hn := ZBlk.new ww5
              have hp9 : w1.heap.size ≤ ww5.heap.size := KK.out.size
              have hpq : p ≠ ww5.heap.size := by have := QA.out.lt; omega
              obtain ⟨q, hqe⟩ : ∃ z, ww5.heap.size = z := ⟨_, rfl⟩
              rw [hqe] at hn hp9 hpq ⊢
              obtain ⟨ww7, hnw⟩ : ∃ W, ww5.alloc (.cells #[.string ⟨#[]⟩, .slice none 0 0, .slice none 0 0, .slice none 0 0, .bool false] 58) = W := ⟨_, rfl⟩
              rw [hnw] at hn k ⊢
              clear hnw hqe
              have KK := Lib.hid (KK.out.trans k)
              have ZA := Lib.hid (ZA.out.kept k)
              have ZB := Lib.hid (ZB.out.kept k)
              have QA := Lib.hid (QA.out.kept k)
              have QB := Lib.hid hn
              have HBP := Lib.hid hp9
              clear hn k hp9
              refine hK9.out _ _ KK.out (fun hHeld8 => ?_)
              clear hK9 K9
              try simp only [Act.put, List.setIfInBounds_toArray, List.set_cons_zero, List.set_cons_succ]
              refine wpAnyH_ready (rs := [6]) (by kernel_rfl) (by simp) (AllReadyH.cons (by rw [List.getElem?_toArray]; exact rfl) (fun K9 hK9 => ?_) AllReadyH.nil)
              have z0 := QA.out.cells.at_ 0 _ rfl
              have z1 := QA.out.cells.at_ 1 _ rfl
              have z2 := QA.out.cells.at_ 2 _ rfl
              have z3 := QA.out.cells.at_ 3 _ rfl
              have z4 := QA.out.cells.at_ 4 _ rfl
              have y0 := QA.out.cells.free 0
              have y1 := QA.out.cells.free 1
              have y2 := QA.out.cells.free 2
              have y3 := QA.out.cells.free 3
              have y4 := QA.out.cells.free 4
              go_simp
              have PP := Lib.hid (putN (vs := [.string xa, .slice a1 m1 c1, .slice a2 m2 c2, .slice a3 m3 c3, .bool ca]) QA.out.cells rfl)
              obtain ⟨ww9, hnw⟩ : ∃ W, ww7.setCells p 0 [.string xa, .slice a1 m1 c1, .slice a2 m2 c2, .slice a3 m3 c3, .bool ca] = W := ⟨_, rfl⟩
              have hnw2 : (((((ww7.setCell ⟨p, 0, none⟩ (.string xa)).setCell ⟨p, 1, none⟩ (.slice a1 m1 c1)).setCell ⟨p, 2, none⟩ (.slice a2 m2 c2)).setCell ⟨p, 3, none⟩ (.slice a3 m3 c3)).setCell ⟨p, 4, none⟩ (.bool ca)) = ww9 := hnw
              rw [hnw] at PP
              rw [hnw2]
              clear hnw hnw2 z0 y0 z1 y1 z2 y2 z3 y3 z4 y4
              have ZA := Lib.hid (node_past ZA.out PP.out.size PP.out.far QA.out.norow)
              have ZB := Lib.hid (node_past ZB.out PP.out.size PP.out.far QA.out.norow)
              have QB := Lib.hid (QB.out.far (PP.out.far q (fun e => hpq e.symm)))
              have KK := Lib.hid (show Kept w1 ww9 from PP.out.below _ _ HAP.out KK.out)
              have QA := Lib.hid PP.out.cells
              clear PP
              refine hK9.out _ _ KK.out (fun hHeld10 => ?_)
              clear hK9 K9
              try simp only [Act.put, List.setIfInBounds_toArray, List.set_cons_zero, List.set_cons_succ]
              refine wpAnyH_ready (rs := [7]) (by kernel_rfl) (by simp) (AllReadyH.cons (by rw [List.getElem?_toArray]; exact rfl) (fun K9 hK9 => ?_) AllReadyH.nil)
              have z0 := QB.out.cells.at_ 0 _ rfl
              have z1 := QB.out.cells.at_ 1 _ rfl
              have z2 := QB.out.cells.at_ 2 _ rfl
              have z3 := QB.out.cells.at_ 3 _ rfl
              have z4 := QB.out.cells.at_ 4 _ rfl
              have y0 := QB.out.cells.free 0
              have y1 := QB.out.cells.free 1
              have y2 := QB.out.cells.free 2
              have y3 := QB.out.cells.free 3
              have y4 := QB.out.cells.free 4
              go_simp
              have PP := Lib.hid (putN (vs := [.string xb, .slice b1 n1 d1, .slice b2 n2 d2, .slice b3 n3 d3, .bool cb]) QB.out.cells rfl)
              obtain ⟨ww11, hnw⟩ : ∃ W, ww9.setCells q 0 [.string xb, .slice b1 n1 d1, .slice b2 n2 d2, .slice b3 n3 d3, .bool cb] = W := ⟨_, rfl⟩
              have hnw2 : (((((ww9.setCell ⟨q, 0, none⟩ (.string xb)).setCell ⟨q, 1, none⟩ (.slice b1 n1 d1)).setCell ⟨q, 2, none⟩ (.slice b2 n2 d2)).setCell ⟨q, 3, none⟩ (.slice b3 n3 d3)).setCell ⟨q, 4, none⟩ (.bool cb)) = ww11 := hnw
              rw [hnw] at PP
              rw [hnw2]
              clear hnw hnw2 z0 y0 z1 y1 z2 y2 z3 y3 z4 y4
              have ZA := Lib.hid (node_past ZA.out PP.out.size PP.out.far QB.out.norow)
              have ZB := Lib.hid (node_past ZB.out PP.out.size PP.out.far QB.out.norow)
              have QA := Lib.hid (QA.out.block (PP.out.far p hpq))
              have KK := Lib.hid (show Kept w1 ww11 from PP.out.below _ _ HBP.out KK.out)
              have QB := Lib.hid PP.out.cells
              clear PP
              refine hK9.out _ _ KK.out (fun hHeld12 => ?_)
              clear hK9 K9
              try simp only [Act.put, List.setIfInBounds_toArray, List.set_cons_zero, List.set_cons_succ]
              refine wpAnyH_done (by kernel_rfl) ?_ _
              go_wp2
              go_meet
              case rel => exact ⟨p, q, rfl, rfl, a1, m1, c1, a2, m2, c2, a3, m3, c3, b1, n1, d1, b2, n2, d2, b3, n3, d3, QA.out, QB.out, ZA.out, ZB.out, KK.out⟩
            · skip
              go_simp
              have k := kept_alloc ww3 (.cells #[.string ⟨#[]⟩, .slice none 0 0, .slice none 0 0, .slice none 0 0, .bool false] 58)
              have hn := ZBlk.new ww3
              have hp9 : w1.heap.size ≤ ww3.heap.size := KK.out.size
              obtain ⟨q, hqe⟩ : ∃ z, ww3.heap.size = z := ⟨_, rfl⟩
              rw [hqe] at hn hp9 ⊢
              obtain ⟨ww13, hnw⟩ : ∃ W, ww3.alloc (.cells #[.string ⟨#[]⟩, .slice none 0 0, .slice none 0 0, .slice none 0 0, .bool false] 58) = W := ⟨_, rfl⟩
              rw [hnw] at hn k ⊢
              clear hnw hqe
              have KK := Lib.hid (KK.out.trans k)
              have ZA := Lib.hid (ZA.out.kept k)
              have ZB := Lib.hid (ZB.out.kept k)
              have QB := Lib.hid hn
              have HBP := Lib.hid hp9
              clear hn k hp9
              refine hK9.out _ _ KK.out (fun hHeld14 => ?_)
              clear hK9 K9
              try simp only [Act.put, List.setIfInBounds_toArray, List.set_cons_zero, List.set_cons_succ]
              refine wpAnyH_ready (rs := [4]) (by kernel_rfl) (by simp) (AllReadyH.cons (by rw [List.getElem?_toArray]; exact rfl) (fun K9 hK9 => ?_) AllReadyH.nil)
              go_simp
              have k := kept_alloc ww13 (.cells #[.string ⟨#[]⟩, .slice none 0 0, .slice none 0 0, .slice none 0 0, .bool false] 58)
              have hn := ZBlk.new ww13
              have hp9 : w1.heap.size ≤ ww13.heap.size := KK.out.size
              have hpq : ww13.heap.size ≠ q := by have := QB.out.lt; omega
              obtain ⟨p, hpe⟩ : ∃ z, ww13.heap.size = z := ⟨_, rfl⟩
              rw [hpe] at hn hp9 hpq ⊢
              obtain ⟨ww15, hnw⟩ : ∃ W, ww13.alloc (.cells #[.string ⟨#[]⟩, .slice none 0 0, .slice none 0 0, .slice none 0 0, .bool false] 58) = W := ⟨_, rfl⟩
              rw [hnw] at hn k ⊢
              clear hnw hpe
              have KK := Lib.hid (KK.out.trans k)
              have ZA := Lib.hid (ZA.out.kept k)
              have ZB := Lib.hid (ZB.out.kept k)
              have QB := Lib.hid (QB.out.kept k)
              have QA := Lib.hid hn
              have HAP := Lib.hid hp9
              clear hn k hp9
              refine hK9.out _ _ KK.out (fun hHeld16 => ?_)
              clear hK9 K9
              try simp only [Act.put, List.setIfInBounds_toArray, List.set_cons_zero, List.set_cons_succ]
              refine wpAnyH_ready (rs := [6]) (by kernel_rfl) (by simp) (AllReadyH.cons (by rw [List.getElem?_toArray]; exact rfl) (fun K9 hK9 => ?_) AllReadyH.nil)
              have z0 := QA.out.cells.at_ 0 _ rfl
              have z1 := QA.out.cells.at_ 1 _ rfl
              have z2 := QA.out.cells.at_ 2 _ rfl
              have z3 := QA.out.cells.at_ 3 _ rfl
              have z4 := QA.out.cells.at_ 4 _ rfl
              have y0 := QA.out.cells.free 0
              have y1 := QA.out.cells.free 1
              have y2 := QA.out.cells.free 2
              have y3 := QA.out.cells.free 3
              have y4 := QA.out.cells.free 4
              go_simp
              have PP := Lib.hid (putN (vs := [.string xa, .slice a1 m1 c1, .slice a2 m2 c2, .slice a3 m3 c3, .bool ca]) QA.out.cells rfl)
              obtain ⟨ww17, hnw⟩ : ∃ W, ww15.setCells p 0 [.string xa, .slice a1 m1 c1, .slice a2 m2 c2, .slice a3 m3 c3, .bool ca] = W := ⟨_, rfl⟩
              have hnw2 : (((((ww15.setCell ⟨p, 0, none⟩ (.string xa)).setCell ⟨p, 1, none⟩ (.slice a1 m1 c1)).setCell ⟨p, 2, none⟩ (.slice a2 m2 c2)).setCell ⟨p, 3, none⟩ (.slice a3 m3 c3)).setCell ⟨p, 4, none⟩ (.bool ca)) = ww17 := hnw
              rw [hnw] at PP
              rw [hnw2]
              clear hnw hnw2 z0 y0 z1 y1 z2 y2 z3 y3 z4 y4
              have ZA := Lib.hid (node_past ZA.out PP.out.size PP.out.far QA.out.norow)
              have ZB := Lib.hid (node_past ZB.out PP.out.size PP.out.far QA.out.norow)
              have QB := Lib.hid (QB.out.far (PP.out.far q (fun e => hpq e.symm)))
              have KK := Lib.hid (show Kept w1 ww17 from PP.out.below _ _ HAP.out KK.out)
              have QA := Lib.hid PP.out.cells
              clear PP
              refine hK9.out _ _ KK.out (fun hHeld18 => ?_)
              clear hK9 K9
              try simp only [Act.put, List.setIfInBounds_toArray, List.set_cons_zero, List.set_cons_succ]
              refine wpAnyH_ready (rs := [7]) (by kernel_rfl) (by simp) (AllReadyH.cons (by rw [List.getElem?_toArray]; exact rfl) (fun K9 hK9 => ?_) AllReadyH.nil)
              have z0 := QB.out.cells.at_ 0 _ rfl
              have z1 := QB.out.cells.at_ 1 _ rfl
              have z2 := QB.out.cells.at_ 2 _ rfl
              have z3 := QB.out.cells.at_ 3 _ rfl
              have z4 := QB.out.cells.at_ 4 _ rfl
              have y0 := QB.out.cells.free 0
              have y1 := QB.out.cells.free 1
              have y2 := QB.out.cells.free 2
              have y3 := QB.out.cells.free 3
              have y4 := QB.out.cells.free 4
              go_simp
              have PP := Lib.hid (putN (vs := [.string xb, .slice b1 n1 d1, .slice b2 n2 d2, .slice b3 n3 d3, .bool cb]) QB.out.cells rfl)
              obtain ⟨ww19, hnw⟩ : ∃ W, ww17.setCells q 0 [.string xb, .slice b1 n1 d1, .slice b2 n2 d2, .slice b3 n3 d3, .bool cb] = W := ⟨_, rfl⟩
              have hnw2 : (((((ww17.setCell ⟨q, 0, none⟩ (.string xb)).setCell ⟨q, 1, none⟩ (.slice b1 n1 d1)).setCell ⟨q, 2, none⟩ (.slice b2 n2 d2)).setCell ⟨q, 3, none⟩ (.slice b3 n3 d3)).setCell ⟨q, 4, none⟩ (.bool cb)) = ww19 := hnw
              rw [hnw] at PP
              rw [hnw2]
              clear hnw hnw2 z0 y0 z1 y1 z2 y2 z3 y3 z4 y4
              have ZA := Lib.hid (node_past ZA.out PP.out.size PP.out.far QB.out.norow)
              have ZB := Lib.hid (node_past ZB.out PP.out.size PP.out.far QB.out.norow)
              have QA := Lib.hid (QA.out.block (PP.out.far p hpq))
              have KK := Lib.hid (show Kept w1 ww19 from PP.out.below _ _ HBP.out KK.out)
              have QB := Lib.hid PP.out.cells
              clear PP
              refine hK9.out _ _ KK.out (fun hHeld20 => ?_)
              clear hK9 K9
              try simp only [Act.put, List.setIfInBounds_toArray, List.set_cons_zero, List.set_cons_succ]
              refine wpAnyH_done (by kernel_rfl) ?_ _
              go_wp2
              go_meet
              case rel => exact ⟨p, q, rfl, rfl, a1, m1, c1, a2, m2, c2, a3, m3, c3, b1, n1, d1, b2, n2, d2, b3, n3, d3, QA.out, QB.out, ZA.out, ZB.out, KK.out⟩
          · skip
            go_simp
            have k := kept_alloc ww1 (.cells #[.string ⟨#[]⟩, .slice none 0 0, .slice none 0 0, .slice none 0 0, .bool false] 58)
            have hn := ZBlk.new ww1
            have hp9 : w1.heap.size ≤ ww1.heap.size := KK.out.size
            obtain ⟨p, hpe⟩ : ∃ z, ww1.heap.size = z := ⟨_, rfl⟩
            rw [hpe] at hn hp9 ⊢
            obtain ⟨ww21, hnw⟩ : ∃ W, ww1.alloc (.cells #[.string ⟨#[]⟩, .slice none 0 0, .slice none 0 0, .slice none 0 0, .bool false] 58) = W := ⟨_, rfl⟩
            rw [hnw] at hn k ⊢
            clear hnw hpe
            have KK := Lib.hid (KK.out.trans k)
            have ZA := Lib.hid (ZA.out.kept k)
            have QA := Lib.hid hn
            have HAP := Lib.hid hp9
            clear hn k hp9
            refine hK9.out _ _ KK.out (fun hHeld22 => ?_)
            clear hK9 K9
            try simp only [Act.put, List.setIfInBounds_toArray, List.set_cons_zero, List.set_cons_succ]
            refine wpAnyH_ready (rs := [3, 5]) (by kernel_rfl) (by simp) (AllReadyH.cons (by rw [List.getElem?_toArray]; exact rfl) (fun K9 hK9 => ?_) (AllReadyH.cons (by rw [List.getElem?_toArray]; exact rfl) (fun K9 hK9 => ?_) AllReadyH.nil))
            · skip
              go_simp
              refine (HOB.out _ KK.out).mono ?_
              rintro e9 ww23 ⟨b1, n1, d1, b2, n2, d2, b3, n3, d3, rfl, hz, k⟩
              have KK := Lib.hid (KK.out.trans k)
              have ZA := Lib.hid (ZA.out.kept k)
              have QA := Lib.hid (QA.out.kept k)
              have ZB := Lib.hid hz
              clear hz k
              refine hK9.out _ _ KK.out (fun hHeld24 => ?_)
              clear hK9 K9
              try simp only [Act.put, List.setIfInBounds_toArray, List.set_cons_zero, List.set_cons_succ]
              refine wpAnyH_ready (rs := [5]) (by kernel_rfl) (by simp) (AllReadyH.cons (by rw [List.getElem?_toArray]; exact rfl) (fun K9 hK9 => ?_) AllReadyH.nil)
              go_simp
              have k := kept_alloc ww23 (.cells #[.string ⟨#[]⟩, .slice none 0 0, .slice none 0 0, .slice none 0 0, .bool false] 58)
              have hn := ZBlk.new ww23
              have hp9 : w1.heap.size ≤ ww23.heap.size := KK.out.size
              have hpq : p ≠ ww23.heap.size := by have := QA.out.lt; omega
              obtain ⟨q, hqe⟩ : ∃ z, ww23.heap.size = z := ⟨_, rfl⟩
              rw [hqe] at hn hp9 hpq ⊢
              obtain ⟨ww25, hnw⟩ : ∃ W, ww23.alloc (.cells #[.string ⟨#[]⟩, .slice none 0 0, .slice none 0 0, .slice none 0 0, .bool false] 58) = W := ⟨_, rfl⟩
              rw [hnw] at hn k ⊢
              clear hnw hqe
              have KK := Lib.hid (KK.out.trans k)
              have ZA := Lib.hid (ZA.out.kept k)
              have ZB := Lib.hid (ZB.out.kept k)
              have QA := Lib.hid (QA.out.kept k)
              have QB := Lib.hid hn
              have HBP := Lib.hid hp9
              clear hn k hp9
              refine hK9.out _ _ KK.out (fun hHeld26 => ?_)
              clear hK9 K9
              try simp only [Act.put, List.setIfInBounds_toArray, List.set_cons_zero, List.set_cons_succ]
              refine wpAnyH_ready (rs := [6]) (by kernel_rfl) (by simp) (AllReadyH.cons (by rw [List.getElem?_toArray]; exact rfl) (fun K9 hK9 => ?_) AllReadyH.nil)
              have z0 := QA.out.cells.at_ 0 _ rfl
              have z1 := QA.out.cells.at_ 1 _ rfl
              have z2 := QA.out.cells.at_ 2 _ rfl
              have z3 := QA.out.cells.at_ 3 _ rfl
              have z4 := QA.out.cells.at_ 4 _ rfl
              have y0 := QA.out.cells.free 0
              have y1 := QA.out.cells.free 1
              have y2 := QA.out.cells.free 2
              have y3 := QA.out.cells.free 3
              have y4 := QA.out.cells.free 4
              go_simp
              have PP := Lib.hid (putN (vs := [.string xa, .slice a1 m1 c1, .slice a2 m2 c2, .slice a3 m3 c3, .bool ca]) QA.out.cells rfl)
              obtain ⟨ww27, hnw⟩ : ∃ W, ww25.setCells p 0 [.string xa, .slice a1 m1 c1, .slice a2 m2 c2, .slice a3 m3 c3, .bool ca] = W := ⟨_, rfl⟩
              have hnw2 : (((((ww25.setCell ⟨p, 0, none⟩ (.string xa)).setCell ⟨p, 1, none⟩ (.slice a1 m1 c1)).setCell ⟨p, 2, none⟩ (.slice a2 m2 c2)).setCell ⟨p, 3, none⟩ (.slice a3 m3 c3)).setCell ⟨p, 4, none⟩ (.bool ca)) = ww27 := hnw
              rw [hnw] at PP
              rw [hnw2]
              clear hnw hnw2 z0 y0 z1 y1 z2 y2 z3 y3 z4 y4
              have ZA := Lib.hid (node_past ZA.out PP.out.size PP.out.far QA.out.norow)
              have ZB := Lib.hid (node_past ZB.out PP.out.size PP.out.far QA.out.norow)
              have QB := Lib.hid (QB.out.far (PP.out.far q (fun e => hpq e.symm)))
              have KK := Lib.hid (show Kept w1 ww27 from PP.out.below _ _ HAP.out KK.out)
              have QA := Lib.hid PP.out.cells
              clear PP
              refine hK9.out _ _ KK.out (fun hHeld28 => ?_)
              clear hK9 K9
              try simp only [Act.put, List.setIfInBounds_toArray, List.set_cons_zero, List.set_cons_succ]
              refine wpAnyH_ready (rs := [7]) (by kernel_rfl) (by simp) (AllReadyH.cons (by rw [List.getElem?_toArray]; exact rfl) (fun K9 hK9 => ?_) AllReadyH.nil)
              have z0 := QB.out.cells.at_ 0 _ rfl
              have z1 := QB.out.cells.at_ 1 _ rfl
              have z2 := QB.out.cells.at_ 2 _ rfl
              have z3 := QB.out.cells.at_ 3 _ rfl
              have z4 := QB.out.cells.at_ 4 _ rfl
              have y0 := QB.out.cells.free 0
              have y1 := QB.out.cells.free 1
              have y2 := QB.out.cells.free 2
              have y3 := QB.out.cells.free 3
              have y4 := QB.out.cells.free 4
              go_simp
              have PP := Lib.hid (putN (vs := [.string xb, .slice b1 n1 d1, .slice b2 n2 d2, .slice b3 n3 d3, .bool cb]) QB.out.cells rfl)
              obtain ⟨ww29, hnw⟩ : ∃ W, ww27.setCells q 0 [.string xb, .slice b1 n1 d1, .slice b2 n2 d2, .slice b3 n3 d3, .bool cb] = W := ⟨_, rfl⟩
              have hnw2 : (((((ww27.setCell ⟨q, 0, none⟩ (.string xb)).setCell ⟨q, 1, none⟩ (.slice b1 n1 d1)).setCell ⟨q, 2, none⟩ (.slice b2 n2 d2)).setCell ⟨q, 3, none⟩ (.slice b3 n3 d3)).setCell ⟨q, 4, none⟩ (.bool cb)) = ww29 := hnw
              rw [hnw] at PP
              rw [hnw2]
              clear hnw hnw2 z0 y0 z1 y1 z2 y2 z3 y3 z4 y4
              have ZA := Lib.hid (node_past ZA.out PP.out.size PP.out.far QB.out.norow)
              have ZB := Lib.hid (node_past ZB.out PP.out.size PP.out.far QB.out.norow)
              have QA := Lib.hid (QA.out.block (PP.out.far p hpq))
              have KK := Lib.hid (show Kept w1 ww29 from PP.out.below _ _ HBP.out KK.out)
              have QB := Lib.hid PP.out.cells
              clear PP
              refine hK9.out _ _ KK.out (fun hHeld30 => ?_)
              clear hK9 K9
              try simp only [Act.put, List.setIfInBounds_toArray, List.set_cons_zero, List.set_cons_succ]
              refine wpAnyH_done (by kernel_rfl) ?_ _
              go_wp2
              go_meet
              case rel => exact ⟨p, q, rfl, rfl, a1, m1, c1, a2, m2, c2, a3, m3, c3, b1, n1, d1, b2, n2, d2, b3, n3, d3, QA.out, QB.out, ZA.out, ZB.out, KK.out⟩
            · skip
              go_simp
              have k := kept_alloc ww21 (.cells #[.string ⟨#[]⟩, .slice none 0 0, .slice none 0 0, .slice none 0 0, .bool false] 58)
              have hn := ZBlk.new ww21
              have hp9 : w1.heap.size ≤ ww21.heap.size := KK.out.size
              have hpq : p ≠ ww21.heap.size := by have := QA.out.lt; omega
              obtain ⟨q, hqe⟩ : ∃ z, ww21.heap.size = z := ⟨_, rfl⟩
              rw [hqe] at hn hp9 hpq ⊢
              obtain ⟨ww31, hnw⟩ : ∃ W, ww21.alloc (.cells #[.string ⟨#[]⟩, .slice none 0 0, .slice none 0 0, .slice none 0 0, .bool false] 58) = W := ⟨_, rfl⟩
              rw [hnw] at hn k ⊢
              clear hnw hqe
              have KK := Lib.hid (KK.out.trans k)
              have ZA := Lib.hid (ZA.out.kept k)
              have QA := Lib.hid (QA.out.kept k)
              have QB := Lib.hid hn
              have HBP := Lib.hid hp9
              clear hn k hp9
              refine hK9.out _ _ KK.out (fun hHeld32 => ?_)
              clear hK9 K9
              try simp only [Act.put, List.setIfInBounds_toArray, List.set_cons_zero, List.set_cons_succ]
              refine wpAnyH_ready (rs := [3]) (by kernel_rfl) (by simp) (AllReadyH.cons (by rw [List.getElem?_toArray]; exact rfl) (fun K9 hK9 => ?_) AllReadyH.nil)
              go_simp
              refine (HOB.out _ KK.out).mono ?_
              rintro e9 ww33 ⟨b1, n1, d1, b2, n2, d2, b3, n3, d3, rfl, hz, k⟩
              have KK := Lib.hid (KK.out.trans k)
              have ZA := Lib.hid (ZA.out.kept k)
              have QA := Lib.hid (QA.out.kept k)
              have QB := Lib.hid (QB.out.kept k)
              have ZB := Lib.hid hz
              clear hz k
              refine hK9.out _ _ KK.out (fun hHeld34 => ?_)
              clear hK9 K9
              try simp only [Act.put, List.setIfInBounds_toArray, List.set_cons_zero, List.set_cons_succ]
              refine wpAnyH_ready (rs := [6]) (by kernel_rfl) (by simp) (AllReadyH.cons (by rw [List.getElem?_toArray]; exact rfl) (fun K9 hK9 => ?_) AllReadyH.nil)
              have z0 := QA.out.cells.at_ 0 _ rfl
              have z1 := QA.out.cells.at_ 1 _ rfl
              have z2 := QA.out.cells.at_ 2 _ rfl
              have z3 := QA.out.cells.at_ 3 _ rfl
              have z4 := QA.out.cells.at_ 4 _ rfl
              have y0 := QA.out.cells.free 0
              have y1 := QA.out.cells.free 1
              have y2 := QA.out.cells.free 2
              have y3 := QA.out.cells.free 3
              have y4 := QA.out.cells.free 4
              go_simp
              have PP := Lib.hid (putN (vs := [.string xa, .slice a1 m1 c1, .slice a2 m2 c2, .slice a3 m3 c3, .bool ca]) QA.out.cells rfl)
              obtain ⟨ww35, hnw⟩ : ∃ W, ww33.setCells p 0 [.string xa, .slice a1 m1 c1, .slice a2 m2 c2, .slice a3 m3 c3, .bool ca] = W := ⟨_, rfl⟩
              have hnw2 : (((((ww33.setCell ⟨p, 0, none⟩ (.string xa)).setCell ⟨p, 1, none⟩ (.slice a1 m1 c1)).setCell ⟨p, 2, none⟩ (.slice a2 m2 c2)).setCell ⟨p, 3, none⟩ (.slice a3 m3 c3)).setCell ⟨p, 4, none⟩ (.bool ca)) = ww35 := hnw
              rw [hnw] at PP
              rw [hnw2]
              clear hnw hnw2 z0 y0 z1 y1 z2 y2 z3 y3 z4 y4
              have ZA := Lib.hid (node_past ZA.out PP.out.size PP.out.far QA.out.norow)
              have ZB := Lib.hid (node_past ZB.out PP.out.size PP.out.far QA.out.norow)
              have QB := Lib.hid (QB.out.far (PP.out.far q (fun e => hpq e.symm)))
              have KK := Lib.hid (show Kept w1 ww35 from PP.out.below _ _ HAP.out KK.out)
              have QA := Lib.hid PP.out.cells
              clear PP
              refine hK9.out _ _ KK.out (fun hHeld36 => ?_)
              clear hK9 K9
              try simp only [Act.put, List.setIfInBounds_toArray, List.set_cons_zero, List.set_cons_succ]
              refine wpAnyH_ready (rs := [7]) (by kernel_rfl) (by simp) (AllReadyH.cons (by rw [List.getElem?_toArray]; exact rfl) (fun K9 hK9 => ?_) AllReadyH.nil)
              have z0 := QB.out.cells.at_ 0 _ rfl
              have z1 := QB.out.cells.at_ 1 _ rfl
              have z2 := QB.out.cells.at_ 2 _ rfl
              have z3 := QB.out.cells.at_ 3 _ rfl
              have z4 := QB.out.cells.at_ 4 _ rfl
              have y0 := QB.out.cells.free 0
              have y1 := QB.out.cells.free 1
              have y2 := QB.out.cells.free 2
              have y3 := QB.out.cells.free 3
              have y4 := QB.out.cells.free 4
              go_simp
              have PP := Lib.hid (putN (vs := [.string xb, .slice b1 n1 d1, .slice b2 n2 d2, .slice b3 n3 d3, .bool cb]) QB.out.cells rfl)
              obtain ⟨ww37, hnw⟩ : ∃ W, ww35.setCells q 0 [.string xb, .slice b1 n1 d1, .slice b2 n2 d2, .slice b3 n3 d3, .bool cb] = W := ⟨_, rfl⟩
              have hnw2 : (((((ww35.setCell ⟨q, 0, none⟩ (.string xb)).setCell ⟨q, 1, none⟩ (.slice b1 n1 d1)).setCell ⟨q, 2, none⟩ (.slice b2 n2 d2)).setCell ⟨q, 3, none⟩ (.slice b3 n3 d3)).setCell ⟨q, 4, none⟩ (.bool cb)) = ww37 := hnw
              rw [hnw] at PP
              rw [hnw2]
              clear hnw hnw2 z0 y0 z1 y1 z2 y2 z3 y3 z4 y4
              have ZA := Lib.hid (node_past ZA.out PP.out.size PP.out.far QB.out.norow)
              have ZB := Lib.hid (node_past ZB.out PP.out.size PP.out.far QB.out.norow)
              have QA := Lib.hid (QA.out.block (PP.out.far p hpq))
              have KK := Lib.hid (show Kept w1 ww37 from PP.out.below _ _ HBP.out KK.out)
              have QB := Lib.hid PP.out.cells
              clear PP
              refine hK9.out _ _ KK.out (fun hHeld38 => ?_)
              clear hK9 K9
              try simp only [Act.put, List.setIfInBounds_toArray, List.set_cons_zero, List.set_cons_succ]
              refine wpAnyH_done (by kernel_rfl) ?_ _
              go_wp2
              go_meet
              case rel => exact ⟨p, q, rfl, rfl, a1, m1, c1, a2, m2, c2, a3, m3, c3, b1, n1, d1, b2, n2, d2, b3, n3, d3, QA.out, QB.out, ZA.out, ZB.out, KK.out⟩
          · skip
            go_simp
            have k := kept_alloc ww1 (.cells #[.string ⟨#[]⟩, .slice none 0 0, .slice none 0 0, .slice none 0 0, .bool false] 58)
            have hn := ZBlk.new ww1
            have hp9 : w1.heap.size ≤ ww1.heap.size := KK.out.size
            obtain ⟨q, hqe⟩ : ∃ z, ww1.heap.size = z := ⟨_, rfl⟩
            rw [hqe] at hn hp9 ⊢
            obtain ⟨ww39, hnw⟩ : ∃ W, ww1.alloc (.cells #[.string ⟨#[]⟩, .slice none 0 0, .slice none 0 0, .slice none 0 0, .bool false] 58) = W := ⟨_, rfl⟩
            rw [hnw] at hn k ⊢
            clear hnw hqe
            have KK := Lib.hid (KK.out.trans k)
            have ZA := Lib.hid (ZA.out.kept k)
            have QB := Lib.hid hn
            have HBP := Lib.hid hp9
            clear hn k hp9
            refine hK9.out _ _ KK.out (fun hHeld40 => ?_)
            clear hK9 K9
            try simp only [Act.put, List.setIfInBounds_toArray, List.set_cons_zero, List.set_cons_succ]
            refine wpAnyH_ready (rs := [3, 4]) (by kernel_rfl) (by simp) (AllReadyH.cons (by rw [List.getElem?_toArray]; exact rfl) (fun K9 hK9 => ?_) (AllReadyH.cons (by rw [List.getElem?_toArray]; exact rfl) (fun K9 hK9 => ?_) AllReadyH.nil))
            · skip
              go_simp
              refine (HOB.out _ KK.out).mono ?_
              rintro e9 ww41 ⟨b1, n1, d1, b2, n2, d2, b3, n3, d3, rfl, hz, k⟩
              have KK := Lib.hid (KK.out.trans k)
              have ZA := Lib.hid (ZA.out.kept k)
              have QB := Lib.hid (QB.out.kept k)
              have ZB := Lib.hid hz
              clear hz k
              refine hK9.out _ _ KK.out (fun hHeld42 => ?_)
              clear hK9 K9
              try simp only [Act.put, List.setIfInBounds_toArray, List.set_cons_zero, List.set_cons_succ]
              refine wpAnyH_ready (rs := [4]) (by kernel_rfl) (by simp) (AllReadyH.cons (by rw [List.getElem?_toArray]; exact rfl) (fun K9 hK9 => ?_) AllReadyH.nil)
              go_simp
              have k := kept_alloc ww41 (.cells #[.string ⟨#[]⟩, .slice none 0 0, .slice none 0 0, .slice none 0 0, .bool false] 58)
              have hn := ZBlk.new ww41
              have hp9 : w1.heap.size ≤ ww41.heap.size := KK.out.size
              have hpq : ww41.heap.size ≠ q := by have := QB.out.lt; omega
              obtain ⟨p, hpe⟩ : ∃ z, ww41.heap.size = z := ⟨_, rfl⟩
              rw [hpe] at hn hp9 hpq ⊢
              obtain ⟨ww43, hnw⟩ : ∃ W, ww41.alloc (.cells #[.string ⟨#[]⟩, .slice none 0 0, .slice none 0 0, .slice none 0 0, .bool false] 58) = W := ⟨_, rfl⟩
              rw [hnw] at hn k ⊢
              clear hnw hpe
              have KK := Lib.hid (KK.out.trans k)
              have ZA := Lib.hid (ZA.out.kept k)
              have ZB := Lib.hid (ZB.out.kept k)
              have QB := Lib.hid (QB.out.kept k)
              have QA := Lib.hid hn
              have HAP := Lib.hid hp9
              clear hn k hp9
              refine hK9.out _ _ KK.out (fun hHeld44 => ?_)
              clear hK9 K9
              try simp only [Act.put, List.setIfInBounds_toArray, List.set_cons_zero, List.set_cons_succ]
              refine wpAnyH_ready (rs := [6]) (by kernel_rfl) (by simp) (AllReadyH.cons (by rw [List.getElem?_toArray]; exact rfl) (fun K9 hK9 => ?_) AllReadyH.nil)
              have z0 := QA.out.cells.at_ 0 _ rfl
              have z1 := QA.out.cells.at_ 1 _ rfl
              have z2 := QA.out.cells.at_ 2 _ rfl
              have z3 := QA.out.cells.at_ 3 _ rfl
              have z4 := QA.out.cells.at_ 4 _ rfl
              have y0 := QA.out.cells.free 0
              have y1 := QA.out.cells.free 1
              have y2 := QA.out.cells.free 2
              have y3 := QA.out.cells.free 3
              have y4 := QA.out.cells.free 4
              go_simp
              have PP := Lib.hid (putN (vs := [.string xa, .slice a1 m1 c1, .slice a2 m2 c2, .slice a3 m3 c3, .bool ca]) QA.out.cells rfl)
              obtain ⟨ww45, hnw⟩ : ∃ W, ww43.setCells p 0 [.string xa, .slice a1 m1 c1, .slice a2 m2 c2, .slice a3 m3 c3, .bool ca] = W := ⟨_, rfl⟩
              have hnw2 : (((((ww43.setCell ⟨p, 0, none⟩ (.string xa)).setCell ⟨p, 1, none⟩ (.slice a1 m1 c1)).setCell ⟨p, 2, none⟩ (.slice a2 m2 c2)).setCell ⟨p, 3, none⟩ (.slice a3 m3 c3)).setCell ⟨p, 4, none⟩ (.bool ca)) = ww45 := hnw
              rw [hnw] at PP
              rw [hnw2]
              clear hnw hnw2 z0 y0 z1 y1 z2 y2 z3 y3 z4 y4
              have ZA := Lib.hid (node_past ZA.out PP.out.size PP.out.far QA.out.norow)
              have ZB := Lib.hid (node_past ZB.out PP.out.size PP.out.far QA.out.norow)
              have QB := Lib.hid (QB.out.far (PP.out.far q (fun e => hpq e.symm)))
              have KK := Lib.hid (show Kept w1 ww45 from PP.out.below _ _ HAP.out KK.out)
              have QA := Lib.hid PP.out.cells
              clear PP
              refine hK9.out _ _ KK.out (fun hHeld46 => ?_)
              clear hK9 K9
              try simp only [Act.put, List.setIfInBounds_toArray, List.set_cons_zero, List.set_cons_succ]
              refine wpAnyH_ready (rs := [7]) (by kernel_rfl) (by simp) (AllReadyH.cons (by rw [List.getElem?_toArray]; exact rfl) (fun K9 hK9 => ?_) AllReadyH.nil)
              have z0 := QB.out.cells.at_ 0 _ rfl
              have z1 := QB.out.cells.at_ 1 _ rfl
              have z2 := QB.out.cells.at_ 2 _ rfl
              have z3 := QB.out.cells.at_ 3 _ rfl
              have z4 := QB.out.cells.at_ 4 _ rfl
              have y0 := QB.out.cells.free 0
              have y1 := QB.out.cells.free 1
              have y2 := QB.out.cells.free 2
              have y3 := QB.out.cells.free 3
              have y4 := QB.out.cells.free 4
              go_simp
              have PP := Lib.hid (putN (vs := [.string xb, .slice b1 n1 d1, .slice b2 n2 d2, .slice b3 n3 d3, .bool cb]) QB.out.cells rfl)
              obtain ⟨ww47, hnw⟩ : ∃ W, ww45.setCells q 0 [.string xb, .slice b1 n1 d1, .slice b2 n2 d2, .slice b3 n3 d3, .bool cb] = W := ⟨_, rfl⟩
              have hnw2 : (((((ww45.setCell ⟨q, 0, none⟩ (.string xb)).setCell ⟨q, 1, none⟩ (.slice b1 n1 d1)).setCell ⟨q, 2, none⟩ (.slice b2 n2 d2)).setCell ⟨q, 3, none⟩ (.slice b3 n3 d3)).setCell ⟨q, 4, none⟩ (.bool cb)) = ww47 := hnw
              rw [hnw] at PP
              rw [hnw2]
              clear hnw hnw2 z0 y0 z1 y1 z2 y2 z3 y3 z4 y4
              have ZA := Lib.hid (node_past ZA.out PP.out.size PP.out.far QB.out.norow)
              have ZB := Lib.hid (node_past ZB.out PP.out.size PP.out.far QB.out.norow)
              have QA := Lib.hid (QA.out.block (PP.out.far p hpq))
              have KK := Lib.hid (show Kept w1 ww47 from PP.out.below _ _ HBP.out KK.out)
              have QB := Lib.hid PP.out.cells
              clear PP
              refine hK9.out _ _ KK.out (fun hHeld48 => ?_)
              clear hK9 K9
              try simp only [Act.put, List.setIfInBounds_toArray, List.set_cons_zero, List.set_cons_succ]
              refine wpAnyH_done (by kernel_rfl) ?_ _
              go_wp2
              go_meet
              case rel => exact ⟨p, q, rfl, rfl, a1, m1, c1, a2, m2, c2, a3, m3, c3, b1, n1, d1, b2, n2, d2, b3, n3, d3, QA.out, QB.out, ZA.out, ZB.out, KK.out⟩
            · skip
              go_simp
              have k := kept_alloc ww39 (.cells #[.string ⟨#[]⟩, .slice none 0 0, .slice none 0 0, .slice none 0 0, .bool false] 58)
              have hn := ZBlk.new ww39
              have hp9 : w1.heap.size ≤ ww39.heap.size := KK.out.size
              have hpq : ww39.heap.size ≠ q := by have := QB.out.lt; omega
              obtain ⟨p, hpe⟩ : ∃ z, ww39.heap.size = z := ⟨_, rfl⟩
              rw [hpe] at hn hp9 hpq ⊢
              obtain ⟨ww49, hnw⟩ : ∃ W, ww39.alloc (.cells #[.string ⟨#[]⟩, .slice none 0 0, .slice none 0 0, .slice none 0 0, .bool false] 58) = W := ⟨_, rfl⟩
              rw [hnw] at hn k ⊢
              clear hnw hpe
              have KK := Lib.hid (KK.out.trans k)
              have ZA := Lib.hid (ZA.out.kept k)
              have QB := Lib.hid (QB.out.kept k)
              have QA := Lib.hid hn
              have HAP := Lib.hid hp9
              clear hn k hp9
              refine hK9.out _ _ KK.out (fun hHeld50 => ?_)
              clear hK9 K9
              try simp only [Act.put, List.setIfInBounds_toArray, List.set_cons_zero, List.set_cons_succ]
              refine wpAnyH_ready (rs := [3]) (by kernel_rfl) (by simp) (AllReadyH.cons (by rw [List.getElem?_toArray]; exact rfl) (fun K9 hK9 => ?_) AllReadyH.nil)
              go_simp
              refine (HOB.out _ KK.out).mono ?_
              rintro e9 ww51 ⟨b1, n1, d1, b2, n2, d2, b3, n3, d3, rfl, hz, k⟩
              have KK := Lib.hid (KK.out.trans k)
              have ZA := Lib.hid (ZA.out.kept k)
              have QA := Lib.hid (QA.out.kept k)
              have QB := Lib.hid (QB.out.kept k)
              have ZB := Lib.hid hz
              clear hz k
              refine hK9.out _ _ KK.out (fun hHeld52 => ?_)
              clear hK9 K9
              try simp only [Act.put, List.setIfInBounds_toArray, List.set_cons_zero, List.set_cons_succ]
              refine wpAnyH_ready (rs := [6]) (by kernel_rfl) (by simp) (AllReadyH.cons (by rw [List.getElem?_toArray]; exact rfl) (fun K9 hK9 => ?_) AllReadyH.nil)
              have z0 := QA.out.cells.at_ 0 _ rfl
              have z1 := QA.out.cells.at_ 1 _ rfl
              have z2 := QA.out.cells.at_ 2 _ rfl
              have z3 := QA.out.cells.at_ 3 _ rfl
              have z4 := QA.out.cells.at_ 4 _ rfl
              have y0 := QA.out.cells.free 0
              have y1 := QA.out.cells.free 1
              have y2 := QA.out.cells.free 2
              have y3 := QA.out.cells.free 3
              have y4 := QA.out.cells.free 4
              go_simp
              have PP := Lib.hid (putN (vs := [.string xa, .slice a1 m1 c1, .slice a2 m2 c2, .slice a3 m3 c3, .bool ca]) QA.out.cells rfl)
              obtain ⟨ww53, hnw⟩ : ∃ W, ww51.setCells p 0 [.string xa, .slice a1 m1 c1, .slice a2 m2 c2, .slice a3 m3 c3, .bool ca] = W := ⟨_, rfl⟩
              have hnw2 : (((((ww51.setCell ⟨p, 0, none⟩ (.string xa)).setCell ⟨p, 1, none⟩ (.slice a1 m1 c1)).setCell ⟨p, 2, none⟩ (.slice a2 m2 c2)).setCell ⟨p, 3, none⟩ (.slice a3 m3 c3)).setCell ⟨p, 4, none⟩ (.bool ca)) = ww53 := hnw
              rw [hnw] at PP
              rw [hnw2]
              clear hnw hnw2 z0 y0 z1 y1 z2 y2 z3 y3 z4 y4
              have ZA := Lib.hid (node_past ZA.out PP.out.size PP.out.far QA.out.norow)
              have ZB := Lib.hid (node_past ZB.out PP.out.size PP.out.far QA.out.norow)
              have QB := Lib.hid (QB.out.far (PP.out.far q (fun e => hpq e.symm)))
              have KK := Lib.hid (show Kept w1 ww53 from PP.out.below _ _ HAP.out KK.out)
              have QA := Lib.hid PP.out.cells
              clear PP
              refine hK9.out _ _ KK.out (fun hHeld54 => ?_)
              clear hK9 K9
              try simp only [Act.put, List.setIfInBounds_toArray, List.set_cons_zero, List.set_cons_succ]
              refine wpAnyH_ready (rs := [7]) (by kernel_rfl) (by simp) (AllReadyH.cons (by rw [List.getElem?_toArray]; exact rfl) (fun K9 hK9 => ?_) AllReadyH.nil)
              have z0 := QB.out.cells.at_ 0 _ rfl
              have z1 := QB.out.cells.at_ 1 _ rfl
              have z2 := QB.out.cells.at_ 2 _ rfl
              have z3 := QB.out.cells.at_ 3 _ rfl
              have z4 := QB.out.cells.at_ 4 _ rfl
              have y0 := QB.out.cells.free 0
              have y1 := QB.out.cells.free 1
              have y2 := QB.out.cells.free 2
              have y3 := QB.out.cells.free 3
              have y4 := QB.out.cells.free 4
              go_simp
              have PP := Lib.hid (putN (vs := [.string xb, .slice b1 n1 d1, .slice b2 n2 d2, .slice b3 n3 d3, .bool cb]) QB.out.cells rfl)
              obtain ⟨ww55, hnw⟩ : ∃ W, ww53.setCells q 0 [.string xb, .slice b1 n1 d1, .slice b2 n2 d2, .slice b3 n3 d3, .bool cb] = W := ⟨_, rfl⟩
              have hnw2 : (((((ww53.setCell ⟨q, 0, none⟩ (.string xb)).setCell ⟨q, 1, none⟩ (.slice b1 n1 d1)).setCell ⟨q, 2, none⟩ (.slice b2 n2 d2)).setCell ⟨q, 3, none⟩ (.slice b3 n3 d3)).setCell ⟨q, 4, none⟩ (.bool cb)) = ww55 := hnw
              rw [hnw] at PP
              rw [hnw2]
              clear hnw hnw2 z0 y0 z1 y1 z2 y2 z3 y3 z4 y4
              have ZA := Lib.hid (node_past ZA.out PP.out.size PP.out.far QB.out.norow)
              have ZB := Lib.hid (node_past ZB.out PP.out.size PP.out.far QB.out.norow)
              have QA := Lib.hid (QA.out.block (PP.out.far p hpq))
              have KK := Lib.hid (show Kept w1 ww55 from PP.out.below _ _ HBP.out KK.out)
              have QB := Lib.hid PP.out.cells
              clear PP
              refine hK9.out _ _ KK.out (fun hHeld56 => ?_)
              clear hK9 K9
              try simp only [Act.put, List.setIfInBounds_toArray, List.set_cons_zero, List.set_cons_succ]
              refine wpAnyH_done (by kernel_rfl) ?_ _
              go_wp2
              go_meet
              case rel => exact ⟨p, q, rfl, rfl, a1, m1, c1, a2, m2, c2, a3, m3, c3, b1, n1, d1, b2, n2, d2, b3, n3, d3, QA.out, QB.out, ZA.out, ZB.out, KK.out⟩
        · skip
          go_simp
          have k := kept_alloc wd (.cells #[.string ⟨#[]⟩, .slice none 0 0, .slice none 0 0, .slice none 0 0, .bool false] 58)
          have hn := ZBlk.new wd
          have hp9 : w1.heap.size ≤ wd.heap.size := KK.out.size
          obtain ⟨p, hpe⟩ : ∃ z, wd.heap.size = z := ⟨_, rfl⟩
          rw [hpe] at hn hp9 ⊢
          obtain ⟨ww57, hnw⟩ : ∃ W, wd.alloc (.cells #[.string ⟨#[]⟩, .slice none 0 0, .slice none 0 0, .slice none 0 0, .bool false] 58) = W := ⟨_, rfl⟩
          rw [hnw] at hn k ⊢
          clear hnw hpe
          have KK := Lib.hid (KK.out.trans k)
          have QA := Lib.hid hn
          have HAP := Lib.hid hp9
          clear hn k hp9
          refine hK9.out _ _ KK.out (fun hHeld58 => ?_)
          clear hK9 K9
          try simp only [Act.put, List.setIfInBounds_toArray, List.set_cons_zero, List.set_cons_succ]
          refine wpAnyH_ready (rs := [1, 5]) (by kernel_rfl) (by simp) (AllReadyH.cons (by rw [List.getElem?_toArray]; exact rfl) (fun K9 hK9 => ?_) (AllReadyH.cons (by rw [List.getElem?_toArray]; exact rfl) (fun K9 hK9 => ?_) AllReadyH.nil))
          · skip
            go_simp
            refine (HOA.out _ KK.out).mono ?_
            rintro e9 ww59 ⟨a1, m1, c1, a2, m2, c2, a3, m3, c3, rfl, hz, k⟩
            have KK := Lib.hid (KK.out.trans k)
            have QA := Lib.hid (QA.out.kept k)
            have ZA := Lib.hid hz
            clear hz k
            refine hK9.out _ _ KK.out (fun hHeld60 => ?_)
            clear hK9 K9
            try simp only [Act.put, List.setIfInBounds_toArray, List.set_cons_zero, List.set_cons_succ]
            refine wpAnyH_ready (rs := [3, 5]) (by kernel_rfl) (by simp) (AllReadyH.cons (by rw [List.getElem?_toArray]; exact rfl) (fun K9 hK9 => ?_) (AllReadyH.cons (by rw [List.getElem?_toArray]; exact rfl) (fun K9 hK9 => ?_) AllReadyH.nil))
            · skip
              go_simp
              refine (HOB.out _ KK.out).mono ?_
              rintro e9 ww61 ⟨b1, n1, d1, b2, n2, d2, b3, n3, d3, rfl, hz, k⟩
              have KK := Lib.hid (KK.out.trans k)
              have ZA := Lib.hid (ZA.out.kept k)
              have QA := Lib.hid (QA.out.kept k)
              have ZB := Lib.hid hz
              clear hz k
              refine hK9.out _ _ KK.out (fun hHeld62 => ?_)
              clear hK9 K9
              try simp only [Act.put, List.setIfInBounds_toArray, List.set_cons_zero, List.set_cons_succ]
              refine wpAnyH_ready (rs := [5]) (by kernel_rfl) (by simp) (AllReadyH.cons (by rw [List.getElem?_toArray]; exact rfl) (fun K9 hK9 => ?_) AllReadyH.nil)
              go_simp
              have k := kept_alloc ww61 (.cells #[.string ⟨#[]⟩, .slice none 0 0, .slice none 0 0, .slice none 0 0, .bool false] 58)
              have hn := ZBlk.new ww61
              have hp9 : w1.heap.size ≤ ww61.heap.size := KK.out.size
              have hpq : p ≠ ww61.heap.size := by have := QA.out.lt; omega
              obtain ⟨q, hqe⟩ : ∃ z, ww61.heap.size = z := ⟨_, rfl⟩
              rw [hqe] at hn hp9 hpq ⊢
              obtain ⟨ww63, hnw⟩ : ∃ W, ww61.alloc (.cells #[.string ⟨#[]⟩, .slice none 0 0, .slice none 0 0, .slice none 0 0, .bool false] 58) = W := ⟨_, rfl⟩
              rw [hnw] at hn k ⊢
              clear hnw hqe
              have KK := Lib.hid (KK.out.trans k)
              have ZA := Lib.hid (ZA.out.kept k)
              have ZB := Lib.hid (ZB.out.kept k)
              have QA := Lib.hid (QA.out.kept k)
              have QB := Lib.hid hn
              have HBP := Lib.hid hp9
              clear hn k hp9
              refine hK9.out _ _ KK.out (fun hHeld64 => ?_)
              clear hK9 K9
              try simp only [Act.put, List.setIfInBounds_toArray, List.set_cons_zero, List.set_cons_succ]
              refine wpAnyH_ready (rs := [6]) (by kernel_rfl) (by simp) (AllReadyH.cons (by rw [List.getElem?_toArray]; exact rfl) (fun K9 hK9 => ?_) AllReadyH.nil)
              have z0 := QA.out.cells.at_ 0 _ rfl
              have z1 := QA.out.cells.at_ 1 _ rfl
              have z2 := QA.out.cells.at_ 2 _ rfl
              have z3 := QA.out.cells.at_ 3 _ rfl
              have z4 := QA.out.cells.at_ 4 _ rfl
              have y0 := QA.out.cells.free 0
              have y1 := QA.out.cells.free 1
              have y2 := QA.out.cells.free 2
              have y3 := QA.out.cells.free 3
              have y4 := QA.out.cells.free 4
              go_simp
              have PP := Lib.hid (putN (vs := [.string xa, .slice a1 m1 c1, .slice a2 m2 c2, .slice a3 m3 c3, .bool ca]) QA.out.cells rfl)
              obtain ⟨ww65, hnw⟩ : ∃ W, ww63.setCells p 0 [.string xa, .slice a1 m1 c1, .slice a2 m2 c2, .slice a3 m3 c3, .bool ca] = W := ⟨_, rfl⟩
              have hnw2 : (((((ww63.setCell ⟨p, 0, none⟩ (.string xa)).setCell ⟨p, 1, none⟩ (.slice a1 m1 c1)).setCell ⟨p, 2, none⟩ (.slice a2 m2 c2)).setCell ⟨p, 3, none⟩ (.slice a3 m3 c3)).setCell ⟨p, 4, none⟩ (.bool ca)) = ww65 := hnw
              rw [hnw] at PP
              rw [hnw2]
              clear hnw hnw2 z0 y0 z1 y1 z2 y2 z3 y3 z4 y4
              have ZA := Lib.hid (node_past ZA.out PP.out.size PP.out.far QA.out.norow)
              have ZB := Lib.hid (node_past ZB.out PP.out.size PP.out.far QA.out.norow)
              have QB := Lib.hid (QB.out.far (PP.out.far q (fun e => hpq e.symm)))
              have KK := Lib.hid (show Kept w1 ww65 from PP.out.below _ _ HAP.out KK.out)
              have QA := Lib.hid PP.out.cells
              clear PP
              refine hK9.out _ _ KK.out (fun hHeld66 => ?_)
              clear hK9 K9
              try simp only [Act.put, List.setIfInBounds_toArray, List.set_cons_zero, List.set_cons_succ]
              refine wpAnyH_ready (rs := [7]) (by kernel_rfl) (by simp) (AllReadyH.cons (by rw [List.getElem?_toArray]; exact rfl) (fun K9 hK9 => ?_) AllReadyH.nil)
              have z0 := QB.out.cells.at_ 0 _ rfl
              have z1 := QB.out.cells.at_ 1 _ rfl
              have z2 := QB.out.cells.at_ 2 _ rfl
              have z3 := QB.out.cells.at_ 3 _ rfl
              have z4 := QB.out.cells.at_ 4 _ rfl
              have y0 := QB.out.cells.free 0
              have y1 := QB.out.cells.free 1
              have y2 := QB.out.cells.free 2
              have y3 := QB.out.cells.free 3
              have y4 := QB.out.cells.free 4
              go_simp
              have PP := Lib.hid (putN (vs := [.string xb, .slice b1 n1 d1, .slice b2 n2 d2, .slice b3 n3 d3, .bool cb]) QB.out.cells rfl)
              obtain ⟨ww67, hnw⟩ : ∃ W, ww65.setCells q 0 [.string xb, .slice b1 n1 d1, .slice b2 n2 d2, .slice b3 n3 d3, .bool cb] = W := ⟨_, rfl⟩
              have hnw2 : (((((ww65.setCell ⟨q, 0, none⟩ (.string xb)).setCell ⟨q, 1, none⟩ (.slice b1 n1 d1)).setCell ⟨q, 2, none⟩ (.slice b2 n2 d2)).setCell ⟨q, 3, none⟩ (.slice b3 n3 d3)).setCell ⟨q, 4, none⟩ (.bool cb)) = ww67 := hnw
              rw [hnw] at PP
              rw [hnw2]
              clear hnw hnw2 z0 y0 z1 y1 z2 y2 z3 y3 z4 y4
              have ZA := Lib.hid (node_past ZA.out PP.out.size PP.out.far QB.out.norow)
              have ZB := Lib.hid (node_past ZB.out PP.out.size PP.out.far QB.out.norow)
              have QA := Lib.hid (QA.out.block (PP.out.far p hpq))
              have KK := Lib.hid (show Kept w1 ww67 from PP.out.below _ _ HBP.out KK.out)
              have QB := Lib.hid PP.out.cells
              clear PP
              refine hK9.out _ _ KK.out (fun hHeld68 => ?_)
              clear hK9 K9
              try simp only [Act.put, List.setIfInBounds_toArray, List.set_cons_zero, List.set_cons_succ]
              refine wpAnyH_done (by kernel_rfl) ?_ _
              go_wp2
              go_meet
              case rel => exact ⟨p, q, rfl, rfl, a1, m1, c1, a2, m2, c2, a3, m3, c3, b1, n1, d1, b2, n2, d2, b3, n3, d3, QA.out, QB.out, ZA.out, ZB.out, KK.out⟩
            · skip
              go_simp
              have k := kept_alloc ww59 (.cells #[.string ⟨#[]⟩, .slice none 0 0, .slice none 0 0, .slice none 0 0, .bool false] 58)
              have hn := ZBlk.new ww59
              have hp9 : w1.heap.size ≤ ww59.heap.size := KK.out.size
              have hpq : p ≠ ww59.heap.size := by have := QA.out.lt; omega
              obtain ⟨q, hqe⟩ : ∃ z, ww59.heap.size = z := ⟨_, rfl⟩
              rw [hqe] at hn hp9 hpq ⊢
              obtain ⟨ww69, hnw⟩ : ∃ W, ww59.alloc (.cells #[.string ⟨#[]⟩, .slice none 0 0, .slice none 0 0, .slice none 0 0, .bool false] 58) = W := ⟨_, rfl⟩
              rw [hnw] at hn k ⊢
              clear hnw hqe
              have KK := Lib.hid (KK.out.trans k)
              have ZA := Lib.hid (ZA.out.kept k)
              have QA := Lib.hid (QA.out.kept k)
              have QB := Lib.hid hn
              have HBP := Lib.hid hp9
              clear hn k hp9
              refine hK9.out _ _ KK.out (fun hHeld70 => ?_)
              clear hK9 K9
              try simp only [Act.put, List.setIfInBounds_toArray, List.set_cons_zero, List.set_cons_succ]
              refine wpAnyH_ready (rs := [3]) (by kernel_rfl) (by simp) (AllReadyH.cons (by rw [List.getElem?_toArray]; exact rfl) (fun K9 hK9 => ?_) AllReadyH.nil)
              go_simp
              refine (HOB.out _ KK.out).mono ?_
              rintro e9 ww71 ⟨b1, n1, d1, b2, n2, d2, b3, n3, d3, rfl, hz, k⟩
              have KK := Lib.hid (KK.out.trans k)
              have ZA := Lib.hid (ZA.out.kept k)
              have QA := Lib.hid (QA.out.kept k)
              have QB := Lib.hid (QB.out.kept k)
              have ZB := Lib.hid hz
              clear hz k
              refine hK9.out _ _ KK.out (fun hHeld72 => ?_)
              clear hK9 K9
              try simp only [Act.put, List.setIfInBounds_toArray, List.set_cons_zero, List.set_cons_succ]
              refine wpAnyH_ready (rs := [6]) (by kernel_rfl) (by simp) (AllReadyH.cons (by rw [List.getElem?_toArray]; exact rfl) (fun K9 hK9 => ?_) AllReadyH.nil)
              have z0 := QA.out.cells.at_ 0 _ rfl
              have z1 := QA.out.cells.at_ 1 _ rfl
              have z2 := QA.out.cells.at_ 2 _ rfl
              have z3 := QA.out.cells.at_ 3 _ rfl
              have z4 := QA.out.cells.at_ 4 _ rfl
              have y0 := QA.out.cells.free 0
              have y1 := QA.out.cells.free 1
              have y2 := QA.out.cells.free 2
              have y3 := QA.out.cells.free 3
              have y4 := QA.out.cells.free 4
              go_simp
              have PP := Lib.hid (putN (vs := [.string xa, .slice a1 m1 c1, .slice a2 m2 c2, .slice a3 m3 c3, .bool ca]) QA.out.cells rfl)
              obtain ⟨ww73, hnw⟩ : ∃ W, ww71.setCells p 0 [.string xa, .slice a1 m1 c1, .slice a2 m2 c2, .slice a3 m3 c3, .bool ca] = W := ⟨_, rfl⟩
              have hnw2 : (((((ww71.setCell ⟨p, 0, none⟩ (.string xa)).setCell ⟨p, 1, none⟩ (.slice a1 m1 c1)).setCell ⟨p, 2, none⟩ (.slice a2 m2 c2)).setCell ⟨p, 3, none⟩ (.slice a3 m3 c3)).setCell ⟨p, 4, none⟩ (.bool ca)) = ww73 := hnw
              rw [hnw] at PP
              rw [hnw2]
              clear hnw hnw2 z0 y0 z1 y1 z2 y2 z3 y3 z4 y4
              have ZA := Lib.hid (node_past ZA.out PP.out.size PP.out.far QA.out.norow)
              have ZB := Lib.hid (node_past ZB.out PP.out.size PP.out.far QA.out.norow)
              have QB := Lib.hid (QB.out.far (PP.out.far q (fun e => hpq e.symm)))
              have KK := Lib.hid (show Kept w1 ww73 from PP.out.below _ _ HAP.out KK.out)
              have QA := Lib.hid PP.out.cells
              clear PP
              refine hK9.out _ _ KK.out (fun hHeld74 => ?_)
              clear hK9 K9
              try simp only [Act.put, List.setIfInBounds_toArray, List.set_cons_zero, List.set_cons_succ]
              refine wpAnyH_ready (rs := [7]) (by kernel_rfl) (by simp) (AllReadyH.cons (by rw [List.getElem?_toArray]; exact rfl) (fun K9 hK9 => ?_) AllReadyH.nil)
              have z0 := QB.out.cells.at_ 0 _ rfl
              have z1 := QB.out.cells.at_ 1 _ rfl
              have z2 := QB.out.cells.at_ 2 _ rfl
              have z3 := QB.out.cells.at_ 3 _ rfl
              have z4 := QB.out.cells.at_ 4 _ rfl
              have y0 := QB.out.cells.free 0
              have y1 := QB.out.cells.free 1
              have y2 := QB.out.cells.free 2
              have y3 := QB.out.cells.free 3
              have y4 := QB.out.cells.free 4
              go_simp
              have PP := Lib.hid (putN (vs := [.string xb, .slice b1 n1 d1, .slice b2 n2 d2, .slice b3 n3 d3, .bool cb]) QB.out.cells rfl)
              obtain ⟨ww75, hnw⟩ : ∃ W, ww73.setCells q 0 [.string xb, .slice b1 n1 d1, .slice b2 n2 d2, .slice b3 n3 d3, .bool cb] = W := ⟨_, rfl⟩
              have hnw2 : (((((ww73.setCell ⟨q, 0, none⟩ (.string xb)).setCell ⟨q, 1, none⟩ (.slice b1 n1 d1)).setCell ⟨q, 2, none⟩ (.slice b2 n2 d2)).setCell ⟨q, 3, none⟩ (.slice b3 n3 d3)).setCell ⟨q, 4, none⟩ (.bool cb)) = ww75 := hnw
              rw [hnw] at PP
              rw [hnw2]
              clear hnw hnw2 z0 y0 z1 y1 z2 y2 z3 y3 z4 y4
              have ZA := Lib.hid (node_past ZA.out PP.out.size PP.out.far QB.out.norow)
              have ZB := Lib.hid (node_past ZB.out PP.out.size PP.out.far QB.out.norow)
              have QA := Lib.hid (QA.out.block (PP.out.far p hpq))
              have KK := Lib.hid (show Kept w1 ww75 from PP.out.below _ _ HBP.out KK.out)
              have QB := Lib.hid PP.out.cells
              clear PP
              refine hK9.out _ _ KK.out (fun hHeld76 => ?_)
              clear hK9 K9
              try simp only [Act.put, List.setIfInBounds_toArray, List.set_cons_zero, List.set_cons_succ]
              refine wpAnyH_done (by kernel_rfl) ?_ _
              go_wp2
              go_meet
              case rel => exact ⟨p, q, rfl, rfl, a1, m1, c1, a2, m2, c2, a3, m3, c3, b1, n1, d1, b2, n2, d2, b3, n3, d3, QA.out, QB.out, ZA.out, ZB.out, KK.out⟩
          · skip
            go_simp
            have k := kept_alloc ww57 (.cells #[.string ⟨#[]⟩, .slice none 0 0, .slice none 0 0, .slice none 0 0, .bool false] 58)
            have hn := ZBlk.new ww57
            have hp9 : w1.heap.size ≤ ww57.heap.size := KK.out.size
            have hpq : p ≠ ww57.heap.size := by have := QA.out.lt; omega
            obtain ⟨q, hqe⟩ : ∃ z, ww57.heap.size = z := ⟨_, rfl⟩
            rw [hqe] at hn hp9 hpq ⊢
            obtain ⟨ww77, hnw⟩ : ∃ W, ww57.alloc (.cells #[.string ⟨#[]⟩, .slice none 0 0, .slice none 0 0, .slice none 0 0, .bool false] 58) = W := ⟨_, rfl⟩
            rw [hnw] at hn k ⊢
            clear hnw hqe
            have KK := Lib.hid (KK.out.trans k)
            have QA := Lib.hid (QA.out.kept k)
            have QB := Lib.hid hn
            have HBP := Lib.hid hp9
            clear hn k hp9
            refine hK9.out _ _ KK.out (fun hHeld78 => ?_)
            clear hK9 K9
            try simp only [Act.put, List.setIfInBounds_toArray, List.set_cons_zero, List.set_cons_succ]
            refine wpAnyH_ready (rs := [1]) (by kernel_rfl) (by simp) (AllReadyH.cons (by rw [List.getElem?_toArray]; exact rfl) (fun K9 hK9 => ?_) AllReadyH.nil)
            go_simp
            refine (HOA.out _ KK.out).mono ?_
            rintro e9 ww79 ⟨a1, m1, c1, a2, m2, c2, a3, m3, c3, rfl, hz, k⟩
            have KK := Lib.hid (KK.out.trans k)
            have QA := Lib.hid (QA.out.kept k)
            have QB := Lib.hid (QB.out.kept k)
            have ZA := Lib.hid hz
            clear hz k
            refine hK9.out _ _ KK.out (fun hHeld80 => ?_)
            clear hK9 K9
            try simp only [Act.put, List.setIfInBounds_toArray, List.set_cons_zero, List.set_cons_succ]
            refine wpAnyH_ready (rs := [3]) (by kernel_rfl) (by simp) (AllReadyH.cons (by rw [List.getElem?_toArray]; exact rfl) (fun K9 hK9 => ?_) AllReadyH.nil)
            go_simp
            refine (HOB.out _ KK.out).mono ?_
            rintro e9 ww81 ⟨b1, n1, d1, b2, n2, d2, b3, n3, d3, rfl, hz, k⟩
            have KK := Lib.hid (KK.out.trans k)
            have ZA := Lib.hid (ZA.out.kept k)
            have QA := Lib.hid (QA.out.kept k)
            have QB := Lib.hid (QB.out.kept k)
            have ZB := Lib.hid hz
            clear hz k
            refine hK9.out _ _ KK.out (fun hHeld82 => ?_)
            clear hK9 K9
            try simp only [Act.put, List.setIfInBounds_toArray, List.set_cons_zero, List.set_cons_succ]
            refine wpAnyH_ready (rs := [6]) (by kernel_rfl) (by simp) (AllReadyH.cons (by rw [List.getElem?_toArray]; exact rfl) (fun K9 hK9 => ?_) AllReadyH.nil)
            have z0 := QA.out.cells.at_ 0 _ rfl
            have z1 := QA.out.cells.at_ 1 _ rfl
            have z2 := QA.out.cells.at_ 2 _ rfl
            have z3 := QA.out.cells.at_ 3 _ rfl
            have z4 := QA.out.cells.at_ 4 _ rfl
            have y0 := QA.out.cells.free 0
            have y1 := QA.out.cells.free 1
            have y2 := QA.out.cells.free 2
            have y3 := QA.out.cells.free 3
            have y4 := QA.out.cells.free 4
            go_simp
            have PP := Lib.hid (putN (vs := [.string xa, .slice a1 m1 c1, .slice a2 m2 c2, .slice a3 m3 c3, .bool ca]) QA.out.cells rfl)
            obtain ⟨ww83, hnw⟩ : ∃ W, ww81.setCells p 0 [.string xa, .slice a1 m1 c1, .slice a2 m2 c2, .slice a3 m3 c3, .bool ca] = W := ⟨_, rfl⟩
            have hnw2 : (((((ww81.setCell ⟨p, 0, none⟩ (.string xa)).setCell ⟨p, 1, none⟩ (.slice a1 m1 c1)).setCell ⟨p, 2, none⟩ (.slice a2 m2 c2)).setCell ⟨p, 3, none⟩ (.slice a3 m3 c3)).setCell ⟨p, 4, none⟩ (.bool ca)) = ww83 := hnw
            rw [hnw] at PP
            rw [hnw2]
            clear hnw hnw2 z0 y0 z1 y1 z2 y2 z3 y3 z4 y4
            have ZA := Lib.hid (node_past ZA.out PP.out.size PP.out.far QA.out.norow)
            have ZB := Lib.hid (node_past ZB.out PP.out.size PP.out.far QA.out.norow)
            have QB := Lib.hid (QB.out.far (PP.out.far q (fun e => hpq e.symm)))
            have KK := Lib.hid (show Kept w1 ww83 from PP.out.below _ _ HAP.out KK.out)
            have QA := Lib.hid PP.out.cells
            clear PP
            refine hK9.out _ _ KK.out (fun hHeld84 => ?_)
            clear hK9 K9
            try simp only [Act.put, List.setIfInBounds_toArray, List.set_cons_zero, List.set_cons_succ]
            refine wpAnyH_ready (rs := [7]) (by kernel_rfl) (by simp) (AllReadyH.cons (by rw [List.getElem?_toArray]; exact rfl) (fun K9 hK9 => ?_) AllReadyH.nil)
            have z0 := QB.out.cells.at_ 0 _ rfl
            have z1 := QB.out.cells.at_ 1 _ rfl
            have z2 := QB.out.cells.at_ 2 _ rfl
            have z3 := QB.out.cells.at_ 3 _ rfl
            have z4 := QB.out.cells.at_ 4 _ rfl
            have y0 := QB.out.cells.free 0
            have y1 := QB.out.cells.free 1
            have y2 := QB.out.cells.free 2
            have y3 := QB.out.cells.free 3
            have y4 := QB.out.cells.free 4
            go_simp
            have PP := Lib.hid (putN (vs := [.string xb, .slice b1 n1 d1, .slice b2 n2 d2, .slice b3 n3 d3, .bool cb]) QB.out.cells rfl)
            obtain ⟨ww85, hnw⟩ : ∃ W, ww83.setCells q 0 [.string xb, .slice b1 n1 d1, .slice b2 n2 d2, .slice b3 n3 d3, .bool cb] = W := ⟨_, rfl⟩
            have hnw2 : (((((ww83.setCell ⟨q, 0, none⟩ (.string xb)).setCell ⟨q, 1, none⟩ (.slice b1 n1 d1)).setCell ⟨q, 2, none⟩ (.slice b2 n2 d2)).setCell ⟨q, 3, none⟩ (.slice b3 n3 d3)).setCell ⟨q, 4, none⟩ (.bool cb)) = ww85 := hnw
            rw [hnw] at PP
            rw [hnw2]
            clear hnw hnw2 z0 y0 z1 y1 z2 y2 z3 y3 z4 y4
            have ZA := Lib.hid (node_past ZA.out PP.out.size PP.out.far QB.out.norow)
            have ZB := Lib.hid (node_past ZB.out PP.out.size PP.out.far QB.out.norow)
            have QA := Lib.hid (QA.out.block (PP.out.far p hpq))
            have KK := Lib.hid (show Kept w1 ww85 from PP.out.below _ _ HBP.out KK.out)
            have QB := Lib.hid PP.out.cells
            clear PP
            refine hK9.out _ _ KK.out (fun hHeld86 => ?_)
            clear hK9 K9
            try simp only [Act.put, List.setIfInBounds_toArray, List.set_cons_zero, List.set_cons_succ]
            refine wpAnyH_done (by kernel_rfl) ?_ _
            go_wp2
            go_meet
            case rel => exact ⟨p, q, rfl, rfl, a1, m1, c1, a2, m2, c2, a3, m3, c3, b1, n1, d1, b2, n2, d2, b3, n3, d3, QA.out, QB.out, ZA.out, ZB.out, KK.out⟩
        · skip
          go_simp
          have k := kept_alloc wd (.cells #[.string ⟨#[]⟩, .slice none 0 0, .slice none 0 0, .slice none 0 0, .bool false] 58)
          have hn := ZBlk.new wd
          have hp9 : w1.heap.size ≤ wd.heap.size := KK.out.size
          obtain ⟨q, hqe⟩ : ∃ z, wd.heap.size = z := ⟨_, rfl⟩
          rw [hqe] at hn hp9 ⊢
          obtain ⟨ww87, hnw⟩ : ∃ W, wd.alloc (.cells #[.string ⟨#[]⟩, .slice none 0 0, .slice none 0 0, .slice none 0 0, .bool false] 58) = W := ⟨_, rfl⟩
          rw [hnw] at hn k ⊢
          clear hnw hqe
          have KK := Lib.hid (KK.out.trans k)
          have QB := Lib.hid hn
          have HBP := Lib.hid hp9
          clear hn k hp9
          refine hK9.out _ _ KK.out (fun hHeld88 => ?_)
          clear hK9 K9
          try simp only [Act.put, List.setIfInBounds_toArray, List.set_cons_zero, List.set_cons_succ]
          refine wpAnyH_ready (rs := [1, 4]) (by kernel_rfl) (by simp) (AllReadyH.cons (by rw [List.getElem?_toArray]; exact rfl) (fun K9 hK9 => ?_) (AllReadyH.cons (by rw [List.getElem?_toArray]; exact rfl) (fun K9 hK9 => ?_) AllReadyH.nil))
          · skip
            go_simp
            refine (HOA.out _ KK.out).mono ?_
            rintro e9 ww89 ⟨a1, m1, c1, a2, m2, c2, a3, m3, c3, rfl, hz, k⟩
            have KK := Lib.hid (KK.out.trans k)
            have QB := Lib.hid (QB.out.kept k)
            have ZA := Lib.hid hz
            clear hz k
            refine hK9.out _ _ KK.out (fun hHeld90 => ?_)
            clear hK9 K9
            try simp only [Act.put, List.setIfInBounds_toArray, List.set_cons_zero, List.set_cons_succ]
            refine wpAnyH_ready (rs := [3, 4]) (by kernel_rfl) (by simp) (AllReadyH.cons (by rw [List.getElem?_toArray]; exact rfl) (fun K9 hK9 => ?_) (AllReadyH.cons (by rw [List.getElem?_toArray]; exact rfl) (fun K9 hK9 => ?_) AllReadyH.nil))
            · skip
              go_simp
              refine (HOB.out _ KK.out).mono ?_
              rintro e9 ww91 ⟨b1, n1, d1, b2, n2, d2, b3, n3, d3, rfl, hz, k⟩
              have KK := Lib.hid (KK.out.trans k)
              have ZA := Lib.hid (ZA.out.kept k)
              have QB := Lib.hid (QB.out.kept k)
              have ZB := Lib.hid hz
              clear hz k
              refine hK9.out _ _ KK.out (fun hHeld92 => ?_)
              clear hK9 K9
              try simp only [Act.put, List.setIfInBounds_toArray, List.set_cons_zero, List.set_cons_succ]
              refine wpAnyH_ready (rs := [4]) (by kernel_rfl) (by simp) (AllReadyH.cons (by rw [List.getElem?_toArray]; exact rfl) (fun K9 hK9 => ?_) AllReadyH.nil)
              go_simp
              have k := kept_alloc ww91 (.cells #[.string ⟨#[]⟩, .slice none 0 0, .slice none 0 0, .slice none 0 0, .bool false] 58)
              have hn := ZBlk.new ww91
              have hp9 : w1.heap.size ≤ ww91.heap.size := KK.out.size
              have hpq : ww91.heap.size ≠ q := by have := QB.out.lt; omega
              obtain ⟨p, hpe⟩ : ∃ z, ww91.heap.size = z := ⟨_, rfl⟩
              rw [hpe] at hn hp9 hpq ⊢
              obtain ⟨ww93, hnw⟩ : ∃ W, ww91.alloc (.cells #[.string ⟨#[]⟩, .slice none 0 0, .slice none 0 0, .slice none 0 0, .bool false] 58) = W := ⟨_, rfl⟩
              rw [hnw] at hn k ⊢
              clear hnw hpe
              have KK := Lib.hid (KK.out.trans k)
              have ZA := Lib.hid (ZA.out.kept k)
              have ZB := Lib.hid (ZB.out.kept k)
              have QB := Lib.hid (QB.out.kept k)
              have QA := Lib.hid hn
              have HAP := Lib.hid hp9
              clear hn k hp9
              refine hK9.out _ _ KK.out (fun hHeld94 => ?_)
              clear hK9 K9
              try simp only [Act.put, List.setIfInBounds_toArray, List.set_cons_zero, List.set_cons_succ]
              refine wpAnyH_ready (rs := [6]) (by kernel_rfl) (by simp) (AllReadyH.cons (by rw [List.getElem?_toArray]; exact rfl) (fun K9 hK9 => ?_) AllReadyH.nil)
              have z0 := QA.out.cells.at_ 0 _ rfl
              have z1 := QA.out.cells.at_ 1 _ rfl
              have z2 := QA.out.cells.at_ 2 _ rfl
              have z3 := QA.out.cells.at_ 3 _ rfl
              have z4 := QA.out.cells.at_ 4 _ rfl
              have y0 := QA.out.cells.free 0
              have y1 := QA.out.cells.free 1
              have y2 := QA.out.cells.free 2
              have y3 := QA.out.cells.free 3
              have y4 := QA.out.cells.free 4
              go_simp
              have PP := Lib.hid (putN (vs := [.string xa, .slice a1 m1 c1, .slice a2 m2 c2, .slice a3 m3 c3, .bool ca]) QA.out.cells rfl)
              obtain ⟨ww95, hnw⟩ : ∃ W, ww93.setCells p 0 [.string xa, .slice a1 m1 c1, .slice a2 m2 c2, .slice a3 m3 c3, .bool ca] = W := ⟨_, rfl⟩
              have hnw2 : (((((ww93.setCell ⟨p, 0, none⟩ (.string xa)).setCell ⟨p, 1, none⟩ (.slice a1 m1 c1)).setCell ⟨p, 2, none⟩ (.slice a2 m2 c2)).setCell ⟨p, 3, none⟩ (.slice a3 m3 c3)).setCell ⟨p, 4, none⟩ (.bool ca)) = ww95 := hnw
              rw [hnw] at PP
              rw [hnw2]
              clear hnw hnw2 z0 y0 z1 y1 z2 y2 z3 y3 z4 y4
              have ZA := Lib.hid (node_past ZA.out PP.out.size PP.out.far QA.out.norow)
              have ZB := Lib.hid (node_past ZB.out PP.out.size PP.out.far QA.out.norow)
              have QB := Lib.hid (QB.out.far (PP.out.far q (fun e => hpq e.symm)))
              have KK := Lib.hid (show Kept w1 ww95 from PP.out.below _ _ HAP.out KK.out)
              have QA := Lib.hid PP.out.cells
              clear PP
              refine hK9.out _ _ KK.out (fun hHeld96 => ?_)
              clear hK9 K9
              try simp only [Act.put, List.setIfInBounds_toArray, List.set_cons_zero, List.set_cons_succ]
              refine wpAnyH_ready (rs := [7]) (by kernel_rfl) (by simp) (AllReadyH.cons (by rw [List.getElem?_toArray]; exact rfl) (fun K9 hK9 => ?_) AllReadyH.nil)
              have z0 := QB.out.cells.at_ 0 _ rfl
              have z1 := QB.out.cells.at_ 1 _ rfl
              have z2 := QB.out.cells.at_ 2 _ rfl
              have z3 := QB.out.cells.at_ 3 _ rfl
              have z4 := QB.out.cells.at_ 4 _ rfl
              have y0 := QB.out.cells.free 0
              have y1 := QB.out.cells.free 1
              have y2 := QB.out.cells.free 2
              have y3 := QB.out.cells.free 3
              have y4 := QB.out.cells.free 4
              go_simp
              have PP := Lib.hid (putN (vs := [.string xb, .slice b1 n1 d1, .slice b2 n2 d2, .slice b3 n3 d3, .bool cb]) QB.out.cells rfl)
              obtain ⟨ww97, hnw⟩ : ∃ W, ww95.setCells q 0 [.string xb, .slice b1 n1 d1, .slice b2 n2 d2, .slice b3 n3 d3, .bool cb] = W := ⟨_, rfl⟩
              have hnw2 : (((((ww95.setCell ⟨q, 0, none⟩ (.string xb)).setCell ⟨q, 1, none⟩ (.slice b1 n1 d1)).setCell ⟨q, 2, none⟩ (.slice b2 n2 d2)).setCell ⟨q, 3, none⟩ (.slice b3 n3 d3)).setCell ⟨q, 4, none⟩ (.bool cb)) = ww97 := hnw
              rw [hnw] at PP
              rw [hnw2]
              clear hnw hnw2 z0 y0 z1 y1 z2 y2 z3 y3 z4 y4
              have ZA := Lib.hid (node_past ZA.out PP.out.size PP.out.far QB.out.norow)
              have ZB := Lib.hid (node_past ZB.out PP.out.size PP.out.far QB.out.norow)
              have QA := Lib.hid (QA.out.block (PP.out.far p hpq))
              have KK := Lib.hid (show Kept w1 ww97 from PP.out.below _ _ HBP.out KK.out)
              have QB := Lib.hid PP.out.cells
              clear PP
              refine hK9.out _ _ KK.out (fun hHeld98 => ?_)
              clear hK9 K9
              try simp only [Act.put, List.setIfInBounds_toArray, List.set_cons_zero, List.set_cons_succ]
              refine wpAnyH_done (by kernel_rfl) ?_ _
              go_wp2
              go_meet
              case rel => exact ⟨p, q, rfl, rfl, a1, m1, c1, a2, m2, c2, a3, m3, c3, b1, n1, d1, b2, n2, d2, b3, n3, d3, QA.out, QB.out, ZA.out, ZB.out, KK.out⟩
            · skip
              go_simp
              have k := kept_alloc ww89 (.cells #[.string ⟨#[]⟩, .slice none 0 0, .slice none 0 0, .slice none 0 0, .bool false] 58)
              have hn := ZBlk.new ww89
              have hp9 : w1.heap.size ≤ ww89.heap.size := KK.out.size
              have hpq : ww89.heap.size ≠ q := by have := QB.out.lt; omega
              obtain ⟨p, hpe⟩ : ∃ z, ww89.heap.size = z := ⟨_, rfl⟩
              rw [hpe] at hn hp9 hpq ⊢
              obtain ⟨ww99, hnw⟩ : ∃ W, ww89.alloc (.cells #[.string ⟨#[]⟩, .slice none 0 0, .slice none 0 0, .slice none 0 0, .bool false] 58) = W := ⟨_, rfl⟩
              rw [hnw] at hn k ⊢
              clear hnw hpe
              have KK := Lib.hid (KK.out.trans k)
              have ZA := Lib.hid (ZA.out.kept k)
              have QB := Lib.hid (QB.out.kept k)
              have QA := Lib.hid hn
              have HAP := Lib.hid hp9
              clear hn k hp9
              refine hK9.out _ _ KK.out (fun hHeld100 => ?_)
              clear hK9 K9
              try simp only [Act.put, List.setIfInBounds_toArray, List.set_cons_zero, List.set_cons_succ]
              refine wpAnyH_ready (rs := [3]) (by kernel_rfl) (by simp) (AllReadyH.cons (by rw [List.getElem?_toArray]; exact rfl) (fun K9 hK9 => ?_) AllReadyH.nil)
              go_simp
              refine (HOB.out _ KK.out).mono ?_
              rintro e9 ww101 ⟨b1, n1, d1, b2, n2, d2, b3, n3, d3, rfl, hz, k⟩
              have KK := Lib.hid (KK.out.trans k)
              have ZA := Lib.hid (ZA.out.kept k)
              have QA := Lib.hid (QA.out.kept k)
              have QB := Lib.hid (QB.out.kept k)
              have ZB := Lib.hid hz
              clear hz k
              refine hK9.out _ _ KK.out (fun hHeld102 => ?_)
              clear hK9 K9
              try simp only [Act.put, List.setIfInBounds_toArray, List.set_cons_zero, List.set_cons_succ]
              refine wpAnyH_ready (rs := [6]) (by kernel_rfl) (by simp) (AllReadyH.cons (by rw [List.getElem?_toArray]; exact rfl) (fun K9 hK9 => ?_) AllReadyH.nil)
              have z0 := QA.out.cells.at_ 0 _ rfl
              have z1 := QA.out.cells.at_ 1 _ rfl
              have z2 := QA.out.cells.at_ 2 _ rfl
              have z3 := QA.out.cells.at_ 3 _ rfl
              have z4 := QA.out.cells.at_ 4 _ rfl
              have y0 := QA.out.cells.free 0
              have y1 := QA.out.cells.free 1
              have y2 := QA.out.cells.free 2
              have y3 := QA.out.cells.free 3
              have y4 := QA.out.cells.free 4
              go_simp
              have PP := Lib.hid (putN (vs := [.string xa, .slice a1 m1 c1, .slice a2 m2 c2, .slice a3 m3 c3, .bool ca]) QA.out.cells rfl)
              obtain ⟨ww103, hnw⟩ : ∃ W, ww101.setCells p 0 [.string xa, .slice a1 m1 c1, .slice a2 m2 c2, .slice a3 m3 c3, .bool ca] = W := ⟨_, rfl⟩
              have hnw2 : (((((ww101.setCell ⟨p, 0, none⟩ (.string xa)).setCell ⟨p, 1, none⟩ (.slice a1 m1 c1)).setCell ⟨p, 2, none⟩ (.slice a2 m2 c2)).setCell ⟨p, 3, none⟩ (.slice a3 m3 c3)).setCell ⟨p, 4, none⟩ (.bool ca)) = ww103 := hnw
              rw [hnw] at PP
              rw [hnw2]
              clear hnw hnw2 z0 y0 z1 y1 z2 y2 z3 y3 z4 y4
              have ZA := Lib.hid (node_past ZA.out PP.out.size PP.out.far QA.out.norow)
              have ZB := Lib.hid (node_past ZB.out PP.out.size PP.out.far QA.out.norow)
              have QB := Lib.hid (QB.out.far (PP.out.far q (fun e => hpq e.symm)))
              have KK := Lib.hid (show Kept w1 ww103 from PP.out.below _ _ HAP.out KK.out)
              have QA := Lib.hid PP.out.cells
              clear PP
              refine hK9.out _ _ KK.out (fun hHeld104 => ?_)
              clear hK9 K9
              try simp only [Act.put, List.setIfInBounds_toArray, List.set_cons_zero, List.set_cons_succ]
              refine wpAnyH_ready (rs := [7]) (by kernel_rfl) (by simp) (AllReadyH.cons (by rw [List.getElem?_toArray]; exact rfl) (fun K9 hK9 => ?_) AllReadyH.nil)
              have z0 := QB.out.cells.at_ 0 _ rfl
              have z1 := QB.out.cells.at_ 1 _ rfl
              have z2 := QB.out.cells.at_ 2 _ rfl
              have z3 := QB.out.cells.at_ 3 _ rfl
              have z4 := QB.out.cells.at_ 4 _ rfl
              have y0 := QB.out.cells.free 0
              have y1 := QB.out.cells.free 1
              have y2 := QB.out.cells.free 2
              have y3 := QB.out.cells.free 3
              have y4 := QB.out.cells.free 4
              go_simp
              have PP := Lib.hid (putN (vs := [.string xb, .slice b1 n1 d1, .slice b2 n2 d2, .slice b3 n3 d3, .bool cb]) QB.out.cells rfl)
              obtain ⟨ww105, hnw⟩ : ∃ W, ww103.setCells q 0 [.string xb, .slice b1 n1 d1, .slice b2 n2 d2, .slice b3 n3 d3, .bool cb] = W := ⟨_, rfl⟩
              have hnw2 : (((((ww103.setCell ⟨q, 0, none⟩ (.string xb)).setCell ⟨q, 1, none⟩ (.slice b1 n1 d1)).setCell ⟨q, 2, none⟩ (.slice b2 n2 d2)).setCell ⟨q, 3, none⟩ (.slice b3 n3 d3)).setCell ⟨q, 4, none⟩ (.bool cb)) = ww105 := hnw
              rw [hnw] at PP
              rw [hnw2]
              clear hnw hnw2 z0 y0 z1 y1 z2 y2 z3 y3 z4 y4
              have ZA := Lib.hid (node_past ZA.out PP.out.size PP.out.far QB.out.norow)
              have ZB := Lib.hid (node_past ZB.out PP.out.size PP.out.far QB.out.norow)
              have QA := Lib.hid (QA.out.block (PP.out.far p hpq))
              have KK := Lib.hid (show Kept w1 ww105 from PP.out.below _ _ HBP.out KK.out)
              have QB := Lib.hid PP.out.cells
              clear PP
              refine hK9.out _ _ KK.out (fun hHeld106 => ?_)
              clear hK9 K9
              try simp only [Act.put, List.setIfInBounds_toArray, List.set_cons_zero, List.set_cons_succ]
              refine wpAnyH_done (by kernel_rfl) ?_ _
              go_wp2
              go_meet
              case rel => exact ⟨p, q, rfl, rfl, a1, m1, c1, a2, m2, c2, a3, m3, c3, b1, n1, d1, b2, n2, d2, b3, n3, d3, QA.out, QB.out, ZA.out, ZB.out, KK.out⟩
          · skip
            go_simp
            have k := kept_alloc ww87 (.cells #[.string ⟨#[]⟩, .slice none 0 0, .slice none 0 0, .slice none 0 0, .bool false] 58)
            have hn := ZBlk.new ww87
            have hp9 : w1.heap.size ≤ ww87.heap.size := KK.out.size
            have hpq : ww87.heap.size ≠ q := by have := QB.out.lt; omega
            obtain ⟨p, hpe⟩ : ∃ z, ww87.heap.size = z := ⟨_, rfl⟩
            rw [hpe] at hn hp9 hpq ⊢
            obtain ⟨ww107, hnw⟩ : ∃ W, ww87.alloc (.cells #[.string ⟨#[]⟩, .slice none 0 0, .slice none 0 0, .slice none 0 0, .bool false] 58) = W := ⟨_, rfl⟩
            rw [hnw] at hn k ⊢
            clear hnw hpe
            have KK := Lib.hid (KK.out.trans k)
            have QB := Lib.hid (QB.out.kept k)
            have QA := Lib.hid hn
            have HAP := Lib.hid hp9
            clear hn k hp9
            refine hK9.out _ _ KK.out (fun hHeld108 => ?_)
            clear hK9 K9
            try simp only [Act.put, List.setIfInBounds_toArray, List.set_cons_zero, List.set_cons_succ]
            refine wpAnyH_ready (rs := [1]) (by kernel_rfl) (by simp) (AllReadyH.cons (by rw [List.getElem?_toArray]; exact rfl) (fun K9 hK9 => ?_) AllReadyH.nil)
            go_simp
            refine (HOA.out _ KK.out).mono ?_
            rintro e9 ww109 ⟨a1, m1, c1, a2, m2, c2, a3, m3, c3, rfl, hz, k⟩
            have KK := Lib.hid (KK.out.trans k)
            have QA := Lib.hid (QA.out.kept k)
            have QB := Lib.hid (QB.out.kept k)
            have ZA := Lib.hid hz
            clear hz k
            refine hK9.out _ _ KK.out (fun hHeld110 => ?_)
            clear hK9 K9
            try simp only [Act.put, List.setIfInBounds_toArray, List.set_cons_zero, List.set_cons_succ]
            refine wpAnyH_ready (rs := [3]) (by kernel_rfl) (by simp) (AllReadyH.cons (by rw [List.getElem?_toArray]; exact rfl) (fun K9 hK9 => ?_) AllReadyH.nil)
            go_simp
            refine (HOB.out _ KK.out).mono ?_
            rintro e9 ww111 ⟨b1, n1, d1, b2, n2, d2, b3, n3, d3, rfl, hz, k⟩
            have KK := Lib.hid (KK.out.trans k)
            have ZA := Lib.hid (ZA.out.kept k)
            have QA := Lib.hid (QA.out.kept k)
            have QB := Lib.hid (QB.out.kept k)
            have ZB := Lib.hid hz
            clear hz k
            refine hK9.out _ _ KK.out (fun hHeld112 => ?_)
            clear hK9 K9
            try simp only [Act.put, List.setIfInBounds_toArray, List.set_cons_zero, List.set_cons_succ]
            refine wpAnyH_ready (rs := [6]) (by kernel_rfl) (by simp) (AllReadyH.cons (by rw [List.getElem?_toArray]; exact rfl) (fun K9 hK9 => ?_) AllReadyH.nil)
            have z0 := QA.out.cells.at_ 0 _ rfl
            have z1 := QA.out.cells.at_ 1 _ rfl
            have z2 := QA.out.cells.at_ 2 _ rfl
            have z3 := QA.out.cells.at_ 3 _ rfl
            have z4 := QA.out.cells.at_ 4 _ rfl
            have y0 := QA.out.cells.free 0
            have y1 := QA.out.cells.free 1
            have y2 := QA.out.cells.free 2
            have y3 := QA.out.cells.free 3
            have y4 := QA.out.cells.free 4
            go_simp
            have PP := Lib.hid (putN (vs := [.string xa, .slice a1 m1 c1, .slice a2 m2 c2, .slice a3 m3 c3, .bool ca]) QA.out.cells rfl)
            obtain ⟨ww113, hnw⟩ : ∃ W, ww111.setCells p 0 [.string xa, .slice a1 m1 c1, .slice a2 m2 c2, .slice a3 m3 c3, .bool ca] = W := ⟨_, rfl⟩
            have hnw2 : (((((ww111.setCell ⟨p, 0, none⟩ (.string xa)).setCell ⟨p, 1, none⟩ (.slice a1 m1 c1)).setCell ⟨p, 2, none⟩ (.slice a2 m2 c2)).setCell ⟨p, 3, none⟩ (.slice a3 m3 c3)).setCell ⟨p, 4, none⟩ (.bool ca)) = ww113 := hnw
            rw [hnw] at PP
            rw [hnw2]
            clear hnw hnw2 z0 y0 z1 y1 z2 y2 z3 y3 z4 y4
            have ZA := Lib.hid (node_past ZA.out PP.out.size PP.out.far QA.out.norow)
            have ZB := Lib.hid (node_past ZB.out PP.out.size PP.out.far QA.out.norow)
            have QB := Lib.hid (QB.out.far (PP.out.far q (fun e => hpq e.symm)))
            have KK := Lib.hid (show Kept w1 ww113 from PP.out.below _ _ HAP.out KK.out)
            have QA := Lib.hid PP.out.cells
            clear PP
            refine hK9.out _ _ KK.out (fun hHeld114 => ?_)
            clear hK9 K9
            try simp only [Act.put, List.setIfInBounds_toArray, List.set_cons_zero, List.set_cons_succ]
            refine wpAnyH_ready (rs := [7]) (by kernel_rfl) (by simp) (AllReadyH.cons (by rw [List.getElem?_toArray]; exact rfl) (fun K9 hK9 => ?_) AllReadyH.nil)
            have z0 := QB.out.cells.at_ 0 _ rfl
            have z1 := QB.out.cells.at_ 1 _ rfl
            have z2 := QB.out.cells.at_ 2 _ rfl
            have z3 := QB.out.cells.at_ 3 _ rfl
            have z4 := QB.out.cells.at_ 4 _ rfl
            have y0 := QB.out.cells.free 0
            have y1 := QB.out.cells.free 1
            have y2 := QB.out.cells.free 2
            have y3 := QB.out.cells.free 3
            have y4 := QB.out.cells.free 4
            go_simp
            have PP := Lib.hid (putN (vs := [.string xb, .slice b1 n1 d1, .slice b2 n2 d2, .slice b3 n3 d3, .bool cb]) QB.out.cells rfl)
            obtain ⟨ww115, hnw⟩ : ∃ W, ww113.setCells q 0 [.string xb, .slice b1 n1 d1, .slice b2 n2 d2, .slice b3 n3 d3, .bool cb] = W := ⟨_, rfl⟩
            have hnw2 : (((((ww113.setCell ⟨q, 0, none⟩ (.string xb)).setCell ⟨q, 1, none⟩ (.slice b1 n1 d1)).setCell ⟨q, 2, none⟩ (.slice b2 n2 d2)).setCell ⟨q, 3, none⟩ (.slice b3 n3 d3)).setCell ⟨q, 4, none⟩ (.bool cb)) = ww115 := hnw
            rw [hnw] at PP
            rw [hnw2]
            clear hnw hnw2 z0 y0 z1 y1 z2 y2 z3 y3 z4 y4
            have ZA := Lib.hid (node_past ZA.out PP.out.size PP.out.far QB.out.norow)
            have ZB := Lib.hid (node_past ZB.out PP.out.size PP.out.far QB.out.norow)
            have QA := Lib.hid (QA.out.block (PP.out.far p hpq))
            have KK := Lib.hid (show Kept w1 ww115 from PP.out.below _ _ HBP.out KK.out)
            have QB := Lib.hid PP.out.cells
            clear PP
            refine hK9.out _ _ KK.out (fun hHeld116 => ?_)
            clear hK9 K9
            try simp only [Act.put, List.setIfInBounds_toArray, List.set_cons_zero, List.set_cons_succ]
            refine wpAnyH_done (by kernel_rfl) ?_ _
            go_wp2
            go_meet
            case rel => exact ⟨p, q, rfl, rfl, a1, m1, c1, a2, m2, c2, a3, m3, c3, b1, n1, d1, b2, n2, d2, b3, n3, d3, QA.out, QB.out, ZA.out, ZB.out, KK.out⟩
      case rest =>
        obtain ⟨p, q, rfl, rfl, a1, m1, c1, a2, m2, c2, a3, m3, c3, b1, n1, d1, b2, n2, d2, b3, n3, d3, hp, hq, za, zb, kk⟩ := hcut
        have K := Lib.hid (K.out.trans kk)
        have HP := Lib.hid (fun W (k : Kept wc W) => CellsN.kept hp k)
        have HQ := Lib.hid (fun W (k : Kept wc W) => CellsN.kept hq k)
        have XA := Lib.hid (fun W (k : Kept wc W) => show NodR W (.agg #[.string xa, .slice a1 m1 c1, .slice a2 m2 c2, .slice a3 m3 c3, .bool ca]) ⟨xa, la1, la2, la3, ca⟩ from ⟨_, _, _, rfl, za.kept k⟩)
        have XB := Lib.hid (fun W (k : Kept wc W) => show NodR W (.agg #[.string xb, .slice b1 n1 d1, .slice b2 n2 d2, .slice b3 n3 d3, .bool cb]) ⟨xb, lb1, lb2, lb3, cb⟩ from ⟨_, _, _, rfl, zb.kept k⟩)
        clear za zb kk HOA HOB HOA1 HOB1 HC
        have p0 := hp.at_ 0 _ rfl
        have p1 := hp.at_ 1 _ rfl
        have p2 := hp.at_ 2 _ rfl
        have p3 := hp.at_ 3 _ rfl
        have p4 := hp.at_ 4 _ rfl
        clear hp hq
        go_wp2_with fail
        refine (rcheckNR (XA.out _ (Kept.refl _)) HCK.out).mono ?_
        rintro e w3 ⟨rfl, k⟩
        have KC := Lib.hid k
        have HS := Lib.hid (show ∀ W, Kept w3 W → ((W.cell? ⟨w.heap.size, 0, none⟩ = some (.string xa) ∧ W.cell? ⟨w.heap.size, 1, none⟩ = some (va1) ∧ W.cell? ⟨w.heap.size, 2, none⟩ = some (va2) ∧ W.cell? ⟨w.heap.size, 3, none⟩ = some (va3) ∧ W.cell? ⟨w.heap.size, 4, none⟩ = some (.bool ca)) ∧ (W.cell? ⟨(w.heap.size + 1), 0, none⟩ = some (.string xb) ∧ W.cell? ⟨(w.heap.size + 1), 1, none⟩ = some (vb1) ∧ W.cell? ⟨(w.heap.size + 1), 2, none⟩ = some (vb2) ∧ W.cell? ⟨(w.heap.size + 1), 3, none⟩ = some (vb3) ∧ W.cell? ⟨(w.heap.size + 1), 4, none⟩ = some (.bool cb)) ∧ (W.cell? ⟨p, 0, none⟩ = some (.string xa) ∧ W.cell? ⟨p, 1, none⟩ = some (.slice a1 m1 c1) ∧ W.cell? ⟨p, 2, none⟩ = some (.slice a2 m2 c2) ∧ W.cell? ⟨p, 3, none⟩ = some (.slice a3 m3 c3) ∧ W.cell? ⟨p, 4, none⟩ = some (.bool ca)) ∧ (W.cell? ⟨q, 0, none⟩ = some (.string xb) ∧ W.cell? ⟨q, 1, none⟩ = some (.slice b1 n1 d1) ∧ W.cell? ⟨q, 2, none⟩ = some (.slice b2 n2 d2) ∧ W.cell? ⟨q, 3, none⟩ = some (.slice b3 n3 d3) ∧ W.cell? ⟨q, 4, none⟩ = some (.bool cb))) from fun W k => by
          obtain ⟨q0, q1, q2, q3, q4, r0, r1, r2, r3, r4⟩ := HC0.out W (K.out.trans (KC.out.trans k))
          have hp := HP.out W (KC.out.trans k)
          have hq := HQ.out W (KC.out.trans k)
          exact ⟨⟨q0, q1, q2, q3, q4⟩, ⟨r0, r1, r2, r3, r4⟩, ⟨(hp).at_ 0 _ rfl, (hp).at_ 1 _ rfl, (hp).at_ 2 _ rfl, (hp).at_ 3 _ rfl, (hp).at_ 4 _ rfl⟩, ⟨(hq).at_ 0 _ rfl, (hq).at_ 1 _ rfl, (hq).at_ 2 _ rfl, (hq).at_ 3 _ rfl, (hq).at_ 4 _ rfl⟩⟩)
        clear k p0 p1 p2 p3 p4
        go_wp2
        go_region_held3 (fun W => ((W.cell? ⟨w.heap.size, 0, none⟩ = some (.string xa) ∧ W.cell? ⟨w.heap.size, 1, none⟩ = some (va1) ∧ W.cell? ⟨w.heap.size, 2, none⟩ = some (va2) ∧ W.cell? ⟨w.heap.size, 3, none⟩ = some (va3) ∧ W.cell? ⟨w.heap.size, 4, none⟩ = some (.bool ca)) ∧ (W.cell? ⟨(w.heap.size + 1), 0, none⟩ = some (.string xb) ∧ W.cell? ⟨(w.heap.size + 1), 1, none⟩ = some (vb1) ∧ W.cell? ⟨(w.heap.size + 1), 2, none⟩ = some (vb2) ∧ W.cell? ⟨(w.heap.size + 1), 3, none⟩ = some (vb3) ∧ W.cell? ⟨(w.heap.size + 1), 4, none⟩ = some (.bool cb)) ∧ (W.cell? ⟨p, 0, none⟩ = some (.string xa) ∧ W.cell? ⟨p, 1, none⟩ = some (.slice a1 m1 c1) ∧ W.cell? ⟨p, 2, none⟩ = some (.slice a2 m2 c2) ∧ W.cell? ⟨p, 3, none⟩ = some (.slice a3 m3 c3) ∧ W.cell? ⟨p, 4, none⟩ = some (.bool ca)) ∧ (W.cell? ⟨q, 0, none⟩ = some (.string xb) ∧ W.cell? ⟨q, 1, none⟩ = some (.slice b1 n1 d1) ∧ W.cell? ⟨q, 2, none⟩ = some (.slice b2 n2 d2) ∧ W.cell? ⟨q, 3, none⟩ = some (.slice b3 n3 d3) ∧ W.cell? ⟨q, 4, none⟩ = some (.bool cb))))
          (first | exact HS.out _ (Kept.drew _) | exact HS.out _ J1.out | exact HS.out _ J2.out | exact HS.out _ J3.out)
          (first | (go_at_call 44; refine (checkNR (RA.out _ (K.out.trans (KC.out.trans (Kept.drew _)))) HCK.out).mono ?_; rintro e1 w4 ⟨rfl, k1⟩; have J1 := Lib.hid ((Kept.drew _).trans k1); clear k1)
                 | (go_at_call 45; refine (sameNodR (RA.out _ (K.out.trans (KC.out.trans J1.out))) (RB.out _ (K.out.trans (KC.out.trans J1.out))) HSM.out).mono ?_; rintro e2 w5 ⟨rfl, k2⟩; have J2 := Lib.hid (J1.out.trans k2); clear k2)
                 | (go_at_call 46; refine (rsameNodR (XA.out _ (KC.out.trans J2.out)) (XB.out _ (KC.out.trans J2.out)) HSM.out).mono ?_; rintro e3 w6 ⟨rfl, k3⟩; have J3 := Lib.hid (J2.out.trans k3); clear k3))
        by_cases z : ck = 0
        · subst z
          have HTL := Lib.hid (textN_told HCK.out HFV.out)
          have KX := Lib.hid (KC.out.trans J3.out)
          obtain ⟨⟨q0, q1, q2, q3, q4⟩, -⟩ := HS.out _ J3.out
          have HTX := Lib.hid (fun W (k : Kept w6 W) => textNR (HE.out.kept (K.out.trans (KX.out.trans k))) (RA.out W (K.out.trans (KX.out.trans k))) HMA.out rfl)
          have HRX := Lib.hid (fun W (k : Kept w6 W) => rtextNR (XA.out W (KX.out.trans k)) HMA.out rfl)
          have HTS := Lib.hid (textN_short FA.out HFV.out)
          obtain ⟨t, ht⟩ : ∃ t, textN ⟨xa, la1, la2, la3, ca⟩ = t := ⟨_, rfl⟩
          rw [ht] at HTX HRX HTL HTS
          obtain ⟨s, rfl⟩ : ∃ s, t = bytes s := ⟨_, (bytes_data t).symm⟩
          rw [show (bytes s).data.toList = s by simp [bytes]] at HTL
          rw [bytes_size] at HTS
          have hbb : ((bytes s).toList == (bytes s).toList) = true := beq_self_eq_true _
          clear ht
          go_wp2_with fail
          refine (HTX.out _ (Kept.refl _)).mono ?_
          rintro e w7 ⟨rfl, k⟩
          have L1 := Lib.hid k
          clear k
          go_wp2_with fail
          refine (Nk.parse_k (x := xa) (cd := ca) (HE.out.kept (K.out.trans (KX.out.trans L1.out))) HTS.out HTL.out rfl rfl).mono ?_
          rintro e w8 ⟨f1, k1, g1, f2, k2, g2, f3, k3, g3, rfl, hn, k⟩
          have L2 := Lib.hid (L1.out.trans k)
          have RN := Lib.hid hn
          clear k hn q0 q1 q2 q3 q4
          go_wp2
          obtain ⟨W9, hW9⟩ : ∃ W, w8.alloc (.cells #[.string xa, .slice f1 k1 g1, .slice f2 k2 g2, .slice f3 k3 g3, .bool ca] 53) = W := ⟨_, rfl⟩
          have k9 : Kept w8 W9 := by rw [← hW9]; exact kept_alloc _ _
          have L3 := Lib.hid (L2.out.trans k9)
          have RN := Lib.hid (fun W (k : Kept W9 W) => show NodR W (.agg #[.string xa, .slice f1 k1 g1, .slice f2 k2 g2, .slice f3 k3 g3, .bool ca]) ⟨xa, la1, la2, la3, ca⟩ from ⟨_, _, _, rfl, RN.out.kept (k9.trans k)⟩)
          have HR9 := Lib.hid (fun W (k : Kept W9 W) => freshN w8 (.string xa) [.slice f1 k1 g1, .slice f2 k2 g2, .slice f3 k3 g3, .bool ca] 53 W (by rw [hW9]; exact k))
          obtain ⟨r, hr⟩ : ∃ r, w8.heap.size = r := ⟨_, rfl⟩
          rw [hr] at HR9
          try rw [hW9]
          try rw [hr]
          have HS2 := Lib.hid (show ∀ W, Kept W9 W → ((W.cell? ⟨w.heap.size, 0, none⟩ = some (.string xa) ∧ W.cell? ⟨w.heap.size, 1, none⟩ = some (va1) ∧ W.cell? ⟨w.heap.size, 2, none⟩ = some (va2) ∧ W.cell? ⟨w.heap.size, 3, none⟩ = some (va3) ∧ W.cell? ⟨w.heap.size, 4, none⟩ = some (.bool ca)) ∧ (W.cell? ⟨p, 0, none⟩ = some (.string xa) ∧ W.cell? ⟨p, 1, none⟩ = some (.slice a1 m1 c1) ∧ W.cell? ⟨p, 2, none⟩ = some (.slice a2 m2 c2) ∧ W.cell? ⟨p, 3, none⟩ = some (.slice a3 m3 c3) ∧ W.cell? ⟨p, 4, none⟩ = some (.bool ca)) ∧ (W.cell? ⟨r, 0, none⟩ = some (.string xa) ∧ W.cell? ⟨r, 1, none⟩ = some (.slice f1 k1 g1) ∧ W.cell? ⟨r, 2, none⟩ = some (.slice f2 k2 g2) ∧ W.cell? ⟨r, 3, none⟩ = some (.slice f3 k3 g3) ∧ W.cell? ⟨r, 4, none⟩ = some (.bool ca))) from fun W k => by
            obtain ⟨g1, -, g3, -⟩ := HS.out W (J3.out.trans (L3.out.trans k))
            have hr := HR9.out W k
            exact ⟨g1, g3, (hr).at_ 0 _ rfl, (hr).at_ 1 _ rfl, (hr).at_ 2 _ rfl, (hr).at_ 3 _ rfl, (hr).at_ 4 _ rfl⟩)
          clear hW9 hr k9
          go_region_held3 (fun W => ((W.cell? ⟨w.heap.size, 0, none⟩ = some (.string xa) ∧ W.cell? ⟨w.heap.size, 1, none⟩ = some (va1) ∧ W.cell? ⟨w.heap.size, 2, none⟩ = some (va2) ∧ W.cell? ⟨w.heap.size, 3, none⟩ = some (va3) ∧ W.cell? ⟨w.heap.size, 4, none⟩ = some (.bool ca)) ∧ (W.cell? ⟨p, 0, none⟩ = some (.string xa) ∧ W.cell? ⟨p, 1, none⟩ = some (.slice a1 m1 c1) ∧ W.cell? ⟨p, 2, none⟩ = some (.slice a2 m2 c2) ∧ W.cell? ⟨p, 3, none⟩ = some (.slice a3 m3 c3) ∧ W.cell? ⟨p, 4, none⟩ = some (.bool ca)) ∧ (W.cell? ⟨r, 0, none⟩ = some (.string xa) ∧ W.cell? ⟨r, 1, none⟩ = some (.slice f1 k1 g1) ∧ W.cell? ⟨r, 2, none⟩ = some (.slice f2 k2 g2) ∧ W.cell? ⟨r, 3, none⟩ = some (.slice f3 k3 g3) ∧ W.cell? ⟨r, 4, none⟩ = some (.bool ca))))
            (first | exact HS2.out _ (Kept.drew _) | exact HS2.out _ M1.out | exact HS2.out _ M2.out | exact HS2.out _ M3.out)
            (first | (go_at_call 48; refine (HTX.out _ (L3.out.trans (Kept.drew _))).mono ?_; rintro e1 w10 ⟨rfl, k1⟩; have M1 := Lib.hid ((Kept.drew _).trans k1); clear k1)
                   | (go_at_call 49; refine (HRX.out _ (L3.out.trans M1.out)).mono ?_; rintro e2 w11 ⟨rfl, k2⟩; have M2 := Lib.hid (M1.out.trans k2); clear k2)
                   | (go_at_call 45; refine (sameNodR (RN.out _ M2.out) (RA.out _ (K.out.trans (KX.out.trans (L3.out.trans M2.out)))) (sameN_self ⟨xa, la1, la2, la3, ca⟩)).mono ?_; rintro e3 w12 ⟨rfl, k3⟩; have M3 := Lib.hid (M2.out.trans k3); clear k3))
          go_wp2
          go_ret
          exact ⟨rfl, HK0.out.trans (K.out.trans (KX.out.trans (L3.out.trans M3.out)))⟩
        · have z' : (ck != 0) = true := by simpa using z
          clear z
          go_wp2
          go_ret
          exact ⟨rfl, HK0.out.trans (K.out.trans (KC.out.trans J3.out))⟩

end Go.Proofs.YtppbbgppooblfaaGreatDoor
