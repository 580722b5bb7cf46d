/- NodeWords: the walk. -/
import Derived.Test.YtppbbgppooblfaaGreatDoorNodOf
import Derived.Test.YtppbbgppooblfaaGreatDoorNodBack
import Derived.Test.YtppbbgppooblfaaGreatDoorNodC
import Derived.Deep.RegionWith
namespace Go.Proofs.YtppbbgppooblfaaGreatDoor
open Go.RowKit
set_option linter.unusedVariables false

theorem rparse_k {s : List UInt8} {c : Int} {n : Nod} {w : World} (hs : s.length ≤ 1000) (h : parseN s = (c, n)) :
    Calls Tryz.prog 50 #[.string (bytes s)] w fun e w' => ∃ a1 m1 c1 a2 m2 c2 a3 m3 c3, e = .returned (.tuple #[.agg #[.string n.name, .slice a1 m1 c1, .slice a2 m2 c2, .slice a3 m3 c3, .bool n.cordon], .int .i64 c]) ∧ NodAt w' (.slice a1 m1 c1) (.slice a2 m2 c2) (.slice a3 m3 c3) n ∧ Kept w w' := by
  refine (rparseNR hs h).mono ?_
  rintro e w' ⟨v, rfl, hn, k⟩
  obtain ⟨v1, v2, v3, rfl, h⟩ := hn
  obtain ⟨a1, d1, e1, q1⟩ := h.cap
  obtain ⟨a2, d2, e2, q2⟩ := h.labels
  obtain ⟨a3, d3, e3, q3⟩ := h.taints
  subst e1; subst e2; subst e3
  exact ⟨_, _, _, _, _, _, _, _, _, rfl, h, k⟩

set_option maxRecDepth 100000 in
set_option maxHeartbeats 8000000 in
theorem NodeWords_walk (s0 : ByteArray) (w : World) (hE : Vec.EnvT w) (hs0 : s0.size ≤ maxLen) :
    Calls Tryz.prog 6 #[.string s0] w fun e w' => e = .returned (.bool true) ∧ Kept w w' := by
  obtain ⟨s, rfl⟩ : ∃ s, s0 = bytes s := ⟨_, (bytes_data s0).symm⟩
  have hsz : (bytes s).size = s.length := bytes_size s
  unfold maxLen at hs0
  have HK := Lib.hid (Nk.known_any w hE)
  have HE := Lib.hid hE
  clear hE
  by_cases h400 : s.length ≤ 400
  · obtain ⟨c, n, hp⟩ : ∃ c n, parseN s = (c, n) := ⟨_, _, rfl⟩
    have HP := Lib.hid hp
    have hlow := low_parse s (by omega)
    have hback := textN_back (s := s)
    have hmid := mid_parse (s := s) (by omega)
    rw [hp] at hlow hback hmid
    dsimp only at hlow hback hmid
    obtain ⟨nm, l1, l2, l3, cd⟩ := n
    have HLOW := Lib.hid hlow
    have HBACK := Lib.hid hback
    have HMID := Lib.hid hmid
    have hbb : ((bytes s).toList == (bytes s).toList) = true := beq_self_eq_true _
    have hcc : (c == c) = true := beq_self_eq_true _
    clear hp hlow hback hmid
    by_cases z : c = 0
    · subst z
      have HB := Lib.hid (HBACK.out rfl)
      go_enter Tryz.func6, Tryz.ntmps6
      go_wp2_with fail
      refine (HK.out).mono ?_
      rintro e w1 ⟨rfl, k⟩
      have K := Lib.hid (k)
      clear k
      go_wp2_with fail
      refine (Nk.parse_k (x := nm) (cd := cd) (HE.out.kept K.out) (by omega) HP.out rfl rfl).mono ?_
      rintro e w2 ⟨a1, m1, c1, a2, m2, c2, a3, m3, c3, rfl, hn, k⟩
      have K := Lib.hid (K.out.trans k)
      have RN := Lib.hid hn
      clear k hn
      go_wp2_with fail
      refine (rparse_k (by omega) HP.out).mono ?_
      rintro e w3 ⟨b1, n1, d1, b2, n2, d2, b3, n3, d3, rfl, hn, k⟩
      dsimp only
      have K := Lib.hid (K.out.trans (Kept.trans (kept_alloc _ _) k))
      have RN := Lib.hid (RN.out.kept (Kept.trans (kept_alloc _ _) k))
      have C1 := Lib.hid (show Cells5 w2.heap.size _ _ _ _ _ w3 from fresh5 w2 _ _ _ _ _ _ w3 k)
      have RX := Lib.hid hn
      clear k hn
      obtain ⟨W0, hW0⟩ : ∃ W, w3.alloc (.cells #[.string nm, .slice b1 n1 d1, .slice b2 n2 d2, .slice b3 n3 d3, .bool cd] 58) = W := ⟨_, rfl⟩
      have k0 : Kept w3 W0 := by rw [← hW0]; exact kept_alloc _ _
      have K := Lib.hid (K.out.trans k0)
      have RN := Lib.hid (show NodR W0 (.agg #[.string nm, .slice a1 m1 c1, .slice a2 m2 c2, .slice a3 m3 c3, .bool cd]) ⟨nm, l1, l2, l3, cd⟩ from ⟨_, _, _, rfl, RN.out.kept k0⟩)
      have RX := Lib.hid (show NodR W0 (.agg #[.string nm, .slice b1 n1 d1, .slice b2 n2 d2, .slice b3 n3 d3, .bool cd]) ⟨nm, l1, l2, l3, cd⟩ from ⟨_, _, _, rfl, RX.out.kept k0⟩)
      have HS := Lib.hid (show ∀ W, Kept W0 W → ((W.cell? ⟨w2.heap.size, 0, none⟩ = some (.string nm) ∧ W.cell? ⟨w2.heap.size, 1, none⟩ = some (.slice a1 m1 c1) ∧ W.cell? ⟨w2.heap.size, 2, none⟩ = some (.slice a2 m2 c2) ∧ W.cell? ⟨w2.heap.size, 3, none⟩ = some (.slice a3 m3 c3) ∧ W.cell? ⟨w2.heap.size, 4, none⟩ = some (.bool cd)) ∧ W.cell? ⟨w3.heap.size, 0, none⟩ = some (.string nm) ∧ W.cell? ⟨w3.heap.size, 1, none⟩ = some (.slice b1 n1 d1) ∧ W.cell? ⟨w3.heap.size, 2, none⟩ = some (.slice b2 n2 d2) ∧ W.cell? ⟨w3.heap.size, 3, none⟩ = some (.slice b3 n3 d3) ∧ W.cell? ⟨w3.heap.size, 4, none⟩ = some (.bool cd)) from fun W kk =>
        ⟨(C1.out.kept (k0.trans kk)).1, (fresh5 w3 _ _ _ _ _ 58 W (by rw [hW0]; exact kk)).1⟩)
      have HEW := Lib.hid (HE.out.kept K.out)
      clear C1 k0
      go_wp2
      try rw [hW0]
      clear hW0
      obtain ⟨⟨y0, y1, y2, y3, y4⟩, x0, x1, x2, x3, x4⟩ := HS.out _ (Kept.refl _)
      first | (go_region_held3 (fun W => ((W.cell? ⟨w2.heap.size, 0, none⟩ = some (.string nm) ∧ W.cell? ⟨w2.heap.size, 1, none⟩ = some (.slice a1 m1 c1) ∧ W.cell? ⟨w2.heap.size, 2, none⟩ = some (.slice a2 m2 c2) ∧ W.cell? ⟨w2.heap.size, 3, none⟩ = some (.slice a3 m3 c3) ∧ W.cell? ⟨w2.heap.size, 4, none⟩ = some (.bool cd)) ∧ W.cell? ⟨w3.heap.size, 0, none⟩ = some (.string nm) ∧ W.cell? ⟨w3.heap.size, 1, none⟩ = some (.slice b1 n1 d1) ∧ W.cell? ⟨w3.heap.size, 2, none⟩ = some (.slice b2 n2 d2) ∧ W.cell? ⟨w3.heap.size, 3, none⟩ = some (.slice b3 n3 d3) ∧ W.cell? ⟨w3.heap.size, 4, none⟩ = some (.bool cd)))
        (first | exact HS.out _ (Kept.drew _) | exact HS.out _ K1.out | exact HS.out _ K2.out | exact HS.out _ K3.out)
        (first | (go_at_call 42; refine (ofNR (RN.out.kept (Kept.drew _)) HLOW.out).mono ?_; rintro e1 w4 ⟨vo, rfl, ro, k1⟩; have K1 := Lib.hid ((Kept.drew _).trans k1); have RO := Lib.hid ro; clear k1 ro)
               | (go_at_call 46; refine (rsameNodR RO.out (RX.out.kept K1.out) (sameN_self ⟨nm, l1, l2, l3, cd⟩)).mono ?_; rintro e2 w5 ⟨rfl, k2⟩; have K2 := Lib.hid (K1.out.trans k2); clear k2)
               | (go_at_call 48; refine (textNR (HEW.out.kept K2.out) (RN.out.kept K2.out) (HMID.out (by trivial) (by obtain ⟨_, _, _, _, h⟩ := RN.out; exact h.cap.fine)) HB.out).mono ?_; rintro e3 w6 ⟨rfl, k3⟩; have K3 := Lib.hid (K2.out.trans k3); clear k3)) ) | fail
      all_goals
        go_wp2
        go_ret
        exact ⟨rfl, K.out.trans K3.out⟩
    · have z' : (c != 0) = true := by simpa using z
      go_enter Tryz.func6, Tryz.ntmps6
      go_wp2_with fail
      refine (HK.out).mono ?_
      rintro e w1 ⟨rfl, k⟩
      have K := Lib.hid (k)
      clear k
      go_wp2_with fail
      refine (Nk.parse_k (x := nm) (cd := cd) (HE.out.kept K.out) (by omega) HP.out rfl rfl).mono ?_
      rintro e w2 ⟨a1, m1, c1, a2, m2, c2, a3, m3, c3, rfl, hn, k⟩
      have K := Lib.hid (K.out.trans k)
      have RN := Lib.hid hn
      clear k hn
      go_wp2_with fail
      refine (rparse_k (by omega) HP.out).mono ?_
      rintro e w3 ⟨b1, n1, d1, b2, n2, d2, b3, n3, d3, rfl, hn, k⟩
      dsimp only
      have K := Lib.hid (K.out.trans (Kept.trans (kept_alloc _ _) k))
      have RN := Lib.hid (RN.out.kept (Kept.trans (kept_alloc _ _) k))
      have C1 := Lib.hid (show Cells5 w2.heap.size _ _ _ _ _ w3 from fresh5 w2 _ _ _ _ _ _ w3 k)
      have RX := Lib.hid hn
      clear k hn
      obtain ⟨W0, hW0⟩ : ∃ W, w3.alloc (.cells #[.string nm, .slice b1 n1 d1, .slice b2 n2 d2, .slice b3 n3 d3, .bool cd] 58) = W := ⟨_, rfl⟩
      have k0 : Kept w3 W0 := by rw [← hW0]; exact kept_alloc _ _
      have K := Lib.hid (K.out.trans k0)
      have RN := Lib.hid (show NodR W0 (.agg #[.string nm, .slice a1 m1 c1, .slice a2 m2 c2, .slice a3 m3 c3, .bool cd]) ⟨nm, l1, l2, l3, cd⟩ from ⟨_, _, _, rfl, RN.out.kept k0⟩)
      have RX := Lib.hid (show NodR W0 (.agg #[.string nm, .slice b1 n1 d1, .slice b2 n2 d2, .slice b3 n3 d3, .bool cd]) ⟨nm, l1, l2, l3, cd⟩ from ⟨_, _, _, rfl, RX.out.kept k0⟩)
      have HS := Lib.hid (show ∀ W, Kept W0 W → ((W.cell? ⟨w2.heap.size, 0, none⟩ = some (.string nm) ∧ W.cell? ⟨w2.heap.size, 1, none⟩ = some (.slice a1 m1 c1) ∧ W.cell? ⟨w2.heap.size, 2, none⟩ = some (.slice a2 m2 c2) ∧ W.cell? ⟨w2.heap.size, 3, none⟩ = some (.slice a3 m3 c3) ∧ W.cell? ⟨w2.heap.size, 4, none⟩ = some (.bool cd)) ∧ W.cell? ⟨w3.heap.size, 0, none⟩ = some (.string nm) ∧ W.cell? ⟨w3.heap.size, 1, none⟩ = some (.slice b1 n1 d1) ∧ W.cell? ⟨w3.heap.size, 2, none⟩ = some (.slice b2 n2 d2) ∧ W.cell? ⟨w3.heap.size, 3, none⟩ = some (.slice b3 n3 d3) ∧ W.cell? ⟨w3.heap.size, 4, none⟩ = some (.bool cd)) from fun W kk =>
        ⟨(C1.out.kept (k0.trans kk)).1, (fresh5 w3 _ _ _ _ _ 58 W (by rw [hW0]; exact kk)).1⟩)
      have HEW := Lib.hid (HE.out.kept K.out)
      clear C1 k0
      go_wp2
      try rw [hW0]
      clear hW0
      obtain ⟨⟨y0, y1, y2, y3, y4⟩, x0, x1, x2, x3, x4⟩ := HS.out _ (Kept.refl _)
      first
        | go_region_with (
          first
          | (go_at_call 42; refine (ofNR (RN.out.kept (Kept.drew _)) HLOW.out).mono ?_; rintro e1 w4 ⟨vo, rfl, ro, k1⟩; have K1 := Lib.hid ((Kept.drew _).trans k1); have RO := Lib.hid ro; clear k1 ro; obtain ⟨⟨s0, s1, s2, s3, s4⟩, t0, t1, t2, t3, t4⟩ := HS.out _ K1.out)
          | (go_at_call 46; refine (rsameNodR RO.out (RX.out.kept K1.out) (sameN_self ⟨nm, l1, l2, l3, cd⟩)).mono ?_; rintro e2 w5 ⟨rfl, k2⟩; have K2 := Lib.hid (K1.out.trans k2); clear k2; obtain ⟨⟨u0, u1, u2, u3, u4⟩, v0, v1, v2, v3, v4⟩ := HS.out _ K2.out))
        | fail
      all_goals
        go_wp2
        go_ret
        exact ⟨rfl, K.out.trans K2.out⟩
  · go_enter Tryz.func6, Tryz.ntmps6
    go_wp2_with fail
    refine (HK.out).mono ?_
    rintro e w1 ⟨rfl, k⟩
    have K := Lib.hid (k)
    clear k
    go_wp2
    go_ret
    exact ⟨rfl, K.out⟩

end Go.Proofs.YtppbbgppooblfaaGreatDoor
