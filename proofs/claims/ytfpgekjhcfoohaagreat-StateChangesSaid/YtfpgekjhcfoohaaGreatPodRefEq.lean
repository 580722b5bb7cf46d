/- Whether two pods are the same: the reference's. -/
import Derived.Test.YtfpgekjhcfoohaaGreatShort
import Derived.Test.YtfpgekjhcfoohaaGreatPodP
set_option linter.unusedVariables false
namespace Go.Proofs.YtfpgekjhcfoohaaGreat
open Go.RowKit
set_option maxRecDepth 100000 in
set_option maxHeartbeats 8000000 in
theorem rsamePod_any (n m : Pd) (v1 v2 v3 v4 u1 u2 u3 u4 : Value) (w : World) (h : PodAt w v1 v2 v3 v4 n) (g : PodAt w u1 u2 u3 u4 m) :
 Calls Tryz.prog 42 #[PodV n v1 v2 v3 v4, PodV m u1 u2 u3 u4] w (Say (.bool (samePd n m)) w) := by
 have HH := lH h
 have GG := lH g
 obtain ⟨b0, hb0⟩ : ∃ b, eqS n.name m.name = b := ⟨_, rfl⟩
 obtain ⟨b1, hb1⟩ : ∃ b, eqS n.owner m.owner = b := ⟨_, rfl⟩
 obtain ⟨b2, hb2⟩ : ∃ b, (n.prio == m.prio) = b := ⟨_, rfl⟩
 obtain ⟨b3, hb3⟩ : ∃ b, Vec.sameFrom n.need m.need = b := ⟨_, rfl⟩
 obtain ⟨b4, hb4⟩ : ∃ b, sameP n.labels m.labels = b := ⟨_, rfl⟩
 obtain ⟨b5, hb5⟩ : ∃ b, sameT n.sel m.sel = b := ⟨_, rfl⟩
 obtain ⟨b6, hb6⟩ : ∃ b, sameA n.tols m.tols = b := ⟨_, rfl⟩
 obtain ⟨b7, hb7⟩ : ∃ b, eqS n.key m.key = b := ⟨_, rfl⟩
 obtain ⟨b8, hb8⟩ : ∃ b, (n.most == m.most) = b := ⟨_, rfl⟩
 obtain ⟨b9, hb9⟩ : ∃ b, eqS n.node m.node = b := ⟨_, rfl⟩
 obtain ⟨b10, hb10⟩ : ∃ b, (n.hold == m.hold) = b := ⟨_, rfl⟩
 have HV0 := lH (show samePd n m = (b0 && (b1 && (b2 && (b3 && (b4 && (b5 && (b6 && (b7 && (b8 && (b9 && b10)))))))))) by unfold samePd; rw [hb0, hb1, hb2, hb3, hb4, hb5, hb6, hb7, hb8, hb9, hb10])
 have t0 : (n.name.toList == m.name.toList) = b0 := hb0
 have t1 : (n.owner.toList == m.owner.toList) = b1 := hb1
 have t2 : (n.prio == m.prio) = b2 := hb2
 have t7 : (n.key.toList == m.key.toList) = b7 := hb7
 have t8 : (n.most == m.most) = b8 := hb8
 have t9 : (n.node.toList == m.node.toList) = b9 := hb9
 have t10 : (n.hold == m.hold) = b10 := hb10
 have B3 := lH hb3
 have B4 := lH hb4
 have B5 := lH hb5
 have B6 := lH hb6
 obtain ⟨W0, hW0⟩ : ∃ W0, (w.alloc (.cells #[.string n.name, .string n.owner, .int .i64 n.prio, v1, v2, v3, v4, .string n.key, .int .i64 n.most, .string n.node, .bool n.hold] 69)).alloc (.cells #[.string m.name, .string m.owner, .int .i64 m.prio, u1, u2, u3, u4, .string m.key, .int .i64 m.most, .string m.node, .bool m.hold] 69) = W0 := ⟨_, rfl⟩
 have hk0 : Kept w W0 := by rw [← hW0]; exact kept_two _ _ _
 have HK0 := lH hk0
 have HC := lH (show ∀ W, Kept W0 W → (W.cell? ⟨w.heap.size, 0, none⟩ = some (.string n.name) ∧ W.cell? ⟨w.heap.size, 1, none⟩ = some (.string n.owner) ∧ W.cell? ⟨w.heap.size, 2, none⟩ = some (.int .i64 n.prio) ∧ W.cell? ⟨w.heap.size, 3, none⟩ = some (v1) ∧ W.cell? ⟨w.heap.size, 4, none⟩ = some (v2) ∧ W.cell? ⟨w.heap.size, 5, none⟩ = some (v3) ∧ W.cell? ⟨w.heap.size, 6, none⟩ = some (v4) ∧ W.cell? ⟨w.heap.size, 7, none⟩ = some (.string n.key) ∧ W.cell? ⟨w.heap.size, 8, none⟩ = some (.int .i64 n.most) ∧ W.cell? ⟨w.heap.size, 9, none⟩ = some (.string n.node) ∧ W.cell? ⟨w.heap.size, 10, none⟩ = some (.bool n.hold)) ∧ (W.cell? ⟨(w.heap.size + 1), 0, none⟩ = some (.string m.name) ∧ W.cell? ⟨(w.heap.size + 1), 1, none⟩ = some (.string m.owner) ∧ W.cell? ⟨(w.heap.size + 1), 2, none⟩ = some (.int .i64 m.prio) ∧ W.cell? ⟨(w.heap.size + 1), 3, none⟩ = some (u1) ∧ W.cell? ⟨(w.heap.size + 1), 4, none⟩ = some (u2) ∧ W.cell? ⟨(w.heap.size + 1), 5, none⟩ = some (u3) ∧ W.cell? ⟨(w.heap.size + 1), 6, none⟩ = some (u4) ∧ W.cell? ⟨(w.heap.size + 1), 7, none⟩ = some (.string m.key) ∧ W.cell? ⟨(w.heap.size + 1), 8, none⟩ = some (.int .i64 m.most) ∧ W.cell? ⟨(w.heap.size + 1), 9, none⟩ = some (.string m.node) ∧ W.cell? ⟨(w.heap.size + 1), 10, none⟩ = some (.bool m.hold)) from fun W k => by
  have c := freshN w (.string n.name) [.string n.owner, .int .i64 n.prio, v1, v2, v3, v4, .string n.key, .int .i64 n.most, .string n.node, .bool n.hold] 69 W (by rw [← hW0] at k; exact (kept_alloc _ _).trans k)
  have d := freshN (w.alloc (.cells #[.string n.name, .string n.owner, .int .i64 n.prio, v1, v2, v3, v4, .string n.key, .int .i64 n.most, .string n.node, .bool n.hold] 69)) (.string m.name) [.string m.owner, .int .i64 m.prio, u1, u2, u3, u4, .string m.key, .int .i64 m.most, .string m.node, .bool m.hold] 69 W (by rw [hW0]; exact k)
  rw [World.size_alloc] at d
  exact ⟨⟨c.at_ 0 _ rfl, c.at_ 1 _ rfl, c.at_ 2 _ rfl, c.at_ 3 _ rfl, c.at_ 4 _ rfl, c.at_ 5 _ rfl, c.at_ 6 _ rfl, c.at_ 7 _ rfl, c.at_ 8 _ rfl, c.at_ 9 _ rfl, c.at_ 10 _ rfl⟩, d.at_ 0 _ rfl, d.at_ 1 _ rfl, d.at_ 2 _ rfl, d.at_ 3 _ rfl, d.at_ 4 _ rfl, d.at_ 5 _ rfl, d.at_ 6 _ rfl, d.at_ 7 _ rfl, d.at_ 8 _ rfl, d.at_ 9 _ rfl, d.at_ 10 _ rfl⟩)
 obtain ⟨⟨c0, c1, c2, c3, c4, c5, c6, c7, c8, c9, c10⟩, d0, d1, d2, d3, d4, d5, d6, d7, d8, d9, d10⟩ := HC.out _ (Kept.refl _)
 clear hb0 hb1 hb2 hb3 hb4 hb5 hb6 hb7 hb8 hb9 hb10 hk0 h g
 unfold PodV
 cases b0 with
 | false =>
  have HV := lH (show samePd n m = false by rw [HV0.out]; simp)
  go_enter Tryz.func42, Tryz.ntmps42
  have K := lH (Kept.refl W0)
  go_wp2
  try rw [hW0]
  go_ret
  exact ⟨ret_bool HV.out.symm, HK0.out.trans K.out⟩
 | true =>
  cases b1 with
  | false =>
   have HV := lH (show samePd n m = false by rw [HV0.out]; simp)
   go_enter Tryz.func42, Tryz.ntmps42
   have K := lH (Kept.refl W0)
   go_wp2
   try rw [hW0]
   go_ret
   exact ⟨ret_bool HV.out.symm, HK0.out.trans K.out⟩
  | true =>
   cases b2 with
   | false =>
    have HV := lH (show samePd n m = false by rw [HV0.out]; simp)
    go_enter Tryz.func42, Tryz.ntmps42
    have K := lH (Kept.refl W0)
    go_wp2
    try rw [hW0]
    go_ret
    exact ⟨ret_bool HV.out.symm, HK0.out.trans K.out⟩
   | true =>
    cases b3 with
    | false =>
     have HV := lH (show samePd n m = false by rw [HV0.out]; simp)
     go_enter Tryz.func42, Tryz.ntmps42
     have K := lH (Kept.refl W0)
     go_wp2_with fail
     try rw [hW0]
     refine (Vec.rsameR (HH.out.need.kept (HK0.out.trans K.out)) (GG.out.need.kept (HK0.out.trans K.out)) B3.out).mono ?_
     rintro e w3 ⟨rfl, k3⟩
     have K := lH (K.out.trans k3)
     clear k3 c0 d0 c1 d1 c2 d2 c3 d3 c4 d4 c5 d5 c6 d6 c7 d7 c8 d8 c9 d9 c10 d10
     obtain ⟨⟨c0, c1, c2, c3, c4, c5, c6, c7, c8, c9, c10⟩, d0, d1, d2, d3, d4, d5, d6, d7, d8, d9, d10⟩ := HC.out _ K.out
     go_wp2
     go_ret
     exact ⟨ret_bool HV.out.symm, HK0.out.trans K.out⟩
    | true =>
     cases b4 with
     | false =>
      have HV := lH (show samePd n m = false by rw [HV0.out]; simp)
      go_enter Tryz.func42, Tryz.ntmps42
      have K := lH (Kept.refl W0)
      go_wp2_with fail
      try rw [hW0]
      refine (Vec.rsameR (HH.out.need.kept (HK0.out.trans K.out)) (GG.out.need.kept (HK0.out.trans K.out)) B3.out).mono ?_
      rintro e w3 ⟨rfl, k3⟩
      have K := lH (K.out.trans k3)
      clear k3 c0 d0 c1 d1 c2 d2 c3 d3 c4 d4 c5 d5 c6 d6 c7 d7 c8 d8 c9 d9 c10 d10
      obtain ⟨⟨c0, c1, c2, c3, c4, c5, c6, c7, c8, c9, c10⟩, d0, d1, d2, d3, d4, d5, d6, d7, d8, d9, d10⟩ := HC.out _ K.out
      go_wp2_with fail
      refine (rsamePR (HH.out.labels.kept (HK0.out.trans K.out)) (GG.out.labels.kept (HK0.out.trans K.out)) B4.out).mono ?_
      rintro e w4 ⟨rfl, k4⟩
      have K := lH (K.out.trans k4)
      clear k4 c0 d0 c1 d1 c2 d2 c3 d3 c4 d4 c5 d5 c6 d6 c7 d7 c8 d8 c9 d9 c10 d10
      obtain ⟨⟨c0, c1, c2, c3, c4, c5, c6, c7, c8, c9, c10⟩, d0, d1, d2, d3, d4, d5, d6, d7, d8, d9, d10⟩ := HC.out _ K.out
      go_wp2
      go_ret
      exact ⟨ret_bool HV.out.symm, HK0.out.trans K.out⟩
     | true =>
      cases b5 with
      | false =>
       have HV := lH (show samePd n m = false by rw [HV0.out]; simp)
       go_enter Tryz.func42, Tryz.ntmps42
       have K := lH (Kept.refl W0)
       go_wp2_with fail
       try rw [hW0]
       refine (Vec.rsameR (HH.out.need.kept (HK0.out.trans K.out)) (GG.out.need.kept (HK0.out.trans K.out)) B3.out).mono ?_
       rintro e w3 ⟨rfl, k3⟩
       have K := lH (K.out.trans k3)
       clear k3 c0 d0 c1 d1 c2 d2 c3 d3 c4 d4 c5 d5 c6 d6 c7 d7 c8 d8 c9 d9 c10 d10
       obtain ⟨⟨c0, c1, c2, c3, c4, c5, c6, c7, c8, c9, c10⟩, d0, d1, d2, d3, d4, d5, d6, d7, d8, d9, d10⟩ := HC.out _ K.out
       go_wp2_with fail
       refine (rsamePR (HH.out.labels.kept (HK0.out.trans K.out)) (GG.out.labels.kept (HK0.out.trans K.out)) B4.out).mono ?_
       rintro e w4 ⟨rfl, k4⟩
       have K := lH (K.out.trans k4)
       clear k4 c0 d0 c1 d1 c2 d2 c3 d3 c4 d4 c5 d5 c6 d6 c7 d7 c8 d8 c9 d9 c10 d10
       obtain ⟨⟨c0, c1, c2, c3, c4, c5, c6, c7, c8, c9, c10⟩, d0, d1, d2, d3, d4, d5, d6, d7, d8, d9, d10⟩ := HC.out _ K.out
       go_wp2_with fail
       refine (rsameTR (HH.out.sel.kept (HK0.out.trans K.out)) (GG.out.sel.kept (HK0.out.trans K.out)) B5.out).mono ?_
       rintro e w5 ⟨rfl, k5⟩
       have K := lH (K.out.trans k5)
       clear k5 c0 d0 c1 d1 c2 d2 c3 d3 c4 d4 c5 d5 c6 d6 c7 d7 c8 d8 c9 d9 c10 d10
       obtain ⟨⟨c0, c1, c2, c3, c4, c5, c6, c7, c8, c9, c10⟩, d0, d1, d2, d3, d4, d5, d6, d7, d8, d9, d10⟩ := HC.out _ K.out
       go_wp2
       go_ret
       exact ⟨ret_bool HV.out.symm, HK0.out.trans K.out⟩
      | true =>
       cases b6 with
       | false =>
        have HV := lH (show samePd n m = false by rw [HV0.out]; simp)
        go_enter Tryz.func42, Tryz.ntmps42
        have K := lH (Kept.refl W0)
        go_wp2_with fail
        try rw [hW0]
        refine (Vec.rsameR (HH.out.need.kept (HK0.out.trans K.out)) (GG.out.need.kept (HK0.out.trans K.out)) B3.out).mono ?_
        rintro e w3 ⟨rfl, k3⟩
        have K := lH (K.out.trans k3)
        clear k3 c0 d0 c1 d1 c2 d2 c3 d3 c4 d4 c5 d5 c6 d6 c7 d7 c8 d8 c9 d9 c10 d10
        obtain ⟨⟨c0, c1, c2, c3, c4, c5, c6, c7, c8, c9, c10⟩, d0, d1, d2, d3, d4, d5, d6, d7, d8, d9, d10⟩ := HC.out _ K.out
        go_wp2_with fail
        refine (rsamePR (HH.out.labels.kept (HK0.out.trans K.out)) (GG.out.labels.kept (HK0.out.trans K.out)) B4.out).mono ?_
        rintro e w4 ⟨rfl, k4⟩
        have K := lH (K.out.trans k4)
        clear k4 c0 d0 c1 d1 c2 d2 c3 d3 c4 d4 c5 d5 c6 d6 c7 d7 c8 d8 c9 d9 c10 d10
        obtain ⟨⟨c0, c1, c2, c3, c4, c5, c6, c7, c8, c9, c10⟩, d0, d1, d2, d3, d4, d5, d6, d7, d8, d9, d10⟩ := HC.out _ K.out
        go_wp2_with fail
        refine (rsameTR (HH.out.sel.kept (HK0.out.trans K.out)) (GG.out.sel.kept (HK0.out.trans K.out)) B5.out).mono ?_
        rintro e w5 ⟨rfl, k5⟩
        have K := lH (K.out.trans k5)
        clear k5 c0 d0 c1 d1 c2 d2 c3 d3 c4 d4 c5 d5 c6 d6 c7 d7 c8 d8 c9 d9 c10 d10
        obtain ⟨⟨c0, c1, c2, c3, c4, c5, c6, c7, c8, c9, c10⟩, d0, d1, d2, d3, d4, d5, d6, d7, d8, d9, d10⟩ := HC.out _ K.out
        go_wp2_with fail
        refine (rsameOR (HH.out.tols.kept (HK0.out.trans K.out)) (GG.out.tols.kept (HK0.out.trans K.out)) B6.out).mono ?_
        rintro e w6 ⟨rfl, k6⟩
        have K := lH (K.out.trans k6)
        clear k6 c0 d0 c1 d1 c2 d2 c3 d3 c4 d4 c5 d5 c6 d6 c7 d7 c8 d8 c9 d9 c10 d10
        obtain ⟨⟨c0, c1, c2, c3, c4, c5, c6, c7, c8, c9, c10⟩, d0, d1, d2, d3, d4, d5, d6, d7, d8, d9, d10⟩ := HC.out _ K.out
        go_wp2
        go_ret
        exact ⟨ret_bool HV.out.symm, HK0.out.trans K.out⟩
       | true =>
        cases b7 with
        | false =>
         have HV := lH (show samePd n m = false by rw [HV0.out]; simp)
         go_enter Tryz.func42, Tryz.ntmps42
         have K := lH (Kept.refl W0)
         go_wp2_with fail
         try rw [hW0]
         refine (Vec.rsameR (HH.out.need.kept (HK0.out.trans K.out)) (GG.out.need.kept (HK0.out.trans K.out)) B3.out).mono ?_
         rintro e w3 ⟨rfl, k3⟩
         have K := lH (K.out.trans k3)
         clear k3 c0 d0 c1 d1 c2 d2 c3 d3 c4 d4 c5 d5 c6 d6 c7 d7 c8 d8 c9 d9 c10 d10
         obtain ⟨⟨c0, c1, c2, c3, c4, c5, c6, c7, c8, c9, c10⟩, d0, d1, d2, d3, d4, d5, d6, d7, d8, d9, d10⟩ := HC.out _ K.out
         go_wp2_with fail
         refine (rsamePR (HH.out.labels.kept (HK0.out.trans K.out)) (GG.out.labels.kept (HK0.out.trans K.out)) B4.out).mono ?_
         rintro e w4 ⟨rfl, k4⟩
         have K := lH (K.out.trans k4)
         clear k4 c0 d0 c1 d1 c2 d2 c3 d3 c4 d4 c5 d5 c6 d6 c7 d7 c8 d8 c9 d9 c10 d10
         obtain ⟨⟨c0, c1, c2, c3, c4, c5, c6, c7, c8, c9, c10⟩, d0, d1, d2, d3, d4, d5, d6, d7, d8, d9, d10⟩ := HC.out _ K.out
         go_wp2_with fail
         refine (rsameTR (HH.out.sel.kept (HK0.out.trans K.out)) (GG.out.sel.kept (HK0.out.trans K.out)) B5.out).mono ?_
         rintro e w5 ⟨rfl, k5⟩
         have K := lH (K.out.trans k5)
         clear k5 c0 d0 c1 d1 c2 d2 c3 d3 c4 d4 c5 d5 c6 d6 c7 d7 c8 d8 c9 d9 c10 d10
         obtain ⟨⟨c0, c1, c2, c3, c4, c5, c6, c7, c8, c9, c10⟩, d0, d1, d2, d3, d4, d5, d6, d7, d8, d9, d10⟩ := HC.out _ K.out
         go_wp2_with fail
         refine (rsameOR (HH.out.tols.kept (HK0.out.trans K.out)) (GG.out.tols.kept (HK0.out.trans K.out)) B6.out).mono ?_
         rintro e w6 ⟨rfl, k6⟩
         have K := lH (K.out.trans k6)
         clear k6 c0 d0 c1 d1 c2 d2 c3 d3 c4 d4 c5 d5 c6 d6 c7 d7 c8 d8 c9 d9 c10 d10
         obtain ⟨⟨c0, c1, c2, c3, c4, c5, c6, c7, c8, c9, c10⟩, d0, d1, d2, d3, d4, d5, d6, d7, d8, d9, d10⟩ := HC.out _ K.out
         go_wp2
         go_ret
         exact ⟨ret_bool HV.out.symm, HK0.out.trans K.out⟩
        | true =>
         cases b8 with
         | false =>
          have HV := lH (show samePd n m = false by rw [HV0.out]; simp)
          go_enter Tryz.func42, Tryz.ntmps42
          have K := lH (Kept.refl W0)
          go_wp2_with fail
          try rw [hW0]
          refine (Vec.rsameR (HH.out.need.kept (HK0.out.trans K.out)) (GG.out.need.kept (HK0.out.trans K.out)) B3.out).mono ?_
          rintro e w3 ⟨rfl, k3⟩
          have K := lH (K.out.trans k3)
          clear k3 c0 d0 c1 d1 c2 d2 c3 d3 c4 d4 c5 d5 c6 d6 c7 d7 c8 d8 c9 d9 c10 d10
          obtain ⟨⟨c0, c1, c2, c3, c4, c5, c6, c7, c8, c9, c10⟩, d0, d1, d2, d3, d4, d5, d6, d7, d8, d9, d10⟩ := HC.out _ K.out
          go_wp2_with fail
          refine (rsamePR (HH.out.labels.kept (HK0.out.trans K.out)) (GG.out.labels.kept (HK0.out.trans K.out)) B4.out).mono ?_
          rintro e w4 ⟨rfl, k4⟩
          have K := lH (K.out.trans k4)
          clear k4 c0 d0 c1 d1 c2 d2 c3 d3 c4 d4 c5 d5 c6 d6 c7 d7 c8 d8 c9 d9 c10 d10
          obtain ⟨⟨c0, c1, c2, c3, c4, c5, c6, c7, c8, c9, c10⟩, d0, d1, d2, d3, d4, d5, d6, d7, d8, d9, d10⟩ := HC.out _ K.out
          go_wp2_with fail
          refine (rsameTR (HH.out.sel.kept (HK0.out.trans K.out)) (GG.out.sel.kept (HK0.out.trans K.out)) B5.out).mono ?_
          rintro e w5 ⟨rfl, k5⟩
          have K := lH (K.out.trans k5)
          clear k5 c0 d0 c1 d1 c2 d2 c3 d3 c4 d4 c5 d5 c6 d6 c7 d7 c8 d8 c9 d9 c10 d10
          obtain ⟨⟨c0, c1, c2, c3, c4, c5, c6, c7, c8, c9, c10⟩, d0, d1, d2, d3, d4, d5, d6, d7, d8, d9, d10⟩ := HC.out _ K.out
          go_wp2_with fail
          refine (rsameOR (HH.out.tols.kept (HK0.out.trans K.out)) (GG.out.tols.kept (HK0.out.trans K.out)) B6.out).mono ?_
          rintro e w6 ⟨rfl, k6⟩
          have K := lH (K.out.trans k6)
          clear k6 c0 d0 c1 d1 c2 d2 c3 d3 c4 d4 c5 d5 c6 d6 c7 d7 c8 d8 c9 d9 c10 d10
          obtain ⟨⟨c0, c1, c2, c3, c4, c5, c6, c7, c8, c9, c10⟩, d0, d1, d2, d3, d4, d5, d6, d7, d8, d9, d10⟩ := HC.out _ K.out
          go_wp2
          go_ret
          exact ⟨ret_bool HV.out.symm, HK0.out.trans K.out⟩
         | true =>
          cases b9 with
          | false =>
           have HV := lH (show samePd n m = false by rw [HV0.out]; simp)
           go_enter Tryz.func42, Tryz.ntmps42
           have K := lH (Kept.refl W0)
           go_wp2_with fail
           try rw [hW0]
           refine (Vec.rsameR (HH.out.need.kept (HK0.out.trans K.out)) (GG.out.need.kept (HK0.out.trans K.out)) B3.out).mono ?_
           rintro e w3 ⟨rfl, k3⟩
           have K := lH (K.out.trans k3)
           clear k3 c0 d0 c1 d1 c2 d2 c3 d3 c4 d4 c5 d5 c6 d6 c7 d7 c8 d8 c9 d9 c10 d10
           obtain ⟨⟨c0, c1, c2, c3, c4, c5, c6, c7, c8, c9, c10⟩, d0, d1, d2, d3, d4, d5, d6, d7, d8, d9, d10⟩ := HC.out _ K.out
           go_wp2_with fail
           refine (rsamePR (HH.out.labels.kept (HK0.out.trans K.out)) (GG.out.labels.kept (HK0.out.trans K.out)) B4.out).mono ?_
           rintro e w4 ⟨rfl, k4⟩
           have K := lH (K.out.trans k4)
           clear k4 c0 d0 c1 d1 c2 d2 c3 d3 c4 d4 c5 d5 c6 d6 c7 d7 c8 d8 c9 d9 c10 d10
           obtain ⟨⟨c0, c1, c2, c3, c4, c5, c6, c7, c8, c9, c10⟩, d0, d1, d2, d3, d4, d5, d6, d7, d8, d9, d10⟩ := HC.out _ K.out
           go_wp2_with fail
           refine (rsameTR (HH.out.sel.kept (HK0.out.trans K.out)) (GG.out.sel.kept (HK0.out.trans K.out)) B5.out).mono ?_
           rintro e w5 ⟨rfl, k5⟩
           have K := lH (K.out.trans k5)
           clear k5 c0 d0 c1 d1 c2 d2 c3 d3 c4 d4 c5 d5 c6 d6 c7 d7 c8 d8 c9 d9 c10 d10
           obtain ⟨⟨c0, c1, c2, c3, c4, c5, c6, c7, c8, c9, c10⟩, d0, d1, d2, d3, d4, d5, d6, d7, d8, d9, d10⟩ := HC.out _ K.out
           go_wp2_with fail
           refine (rsameOR (HH.out.tols.kept (HK0.out.trans K.out)) (GG.out.tols.kept (HK0.out.trans K.out)) B6.out).mono ?_
           rintro e w6 ⟨rfl, k6⟩
           have K := lH (K.out.trans k6)
           clear k6 c0 d0 c1 d1 c2 d2 c3 d3 c4 d4 c5 d5 c6 d6 c7 d7 c8 d8 c9 d9 c10 d10
           obtain ⟨⟨c0, c1, c2, c3, c4, c5, c6, c7, c8, c9, c10⟩, d0, d1, d2, d3, d4, d5, d6, d7, d8, d9, d10⟩ := HC.out _ K.out
           go_wp2
           go_ret
           exact ⟨ret_bool HV.out.symm, HK0.out.trans K.out⟩
          | true =>
           cases b10 with
           | false =>
            have HV := lH (show samePd n m = false by rw [HV0.out]; simp)
            go_enter Tryz.func42, Tryz.ntmps42
            have K := lH (Kept.refl W0)
            go_wp2_with fail
            try rw [hW0]
            refine (Vec.rsameR (HH.out.need.kept (HK0.out.trans K.out)) (GG.out.need.kept (HK0.out.trans K.out)) B3.out).mono ?_
            rintro e w3 ⟨rfl, k3⟩
            have K := lH (K.out.trans k3)
            clear k3 c0 d0 c1 d1 c2 d2 c3 d3 c4 d4 c5 d5 c6 d6 c7 d7 c8 d8 c9 d9 c10 d10
            obtain ⟨⟨c0, c1, c2, c3, c4, c5, c6, c7, c8, c9, c10⟩, d0, d1, d2, d3, d4, d5, d6, d7, d8, d9, d10⟩ := HC.out _ K.out
            go_wp2_with fail
            refine (rsamePR (HH.out.labels.kept (HK0.out.trans K.out)) (GG.out.labels.kept (HK0.out.trans K.out)) B4.out).mono ?_
            rintro e w4 ⟨rfl, k4⟩
            have K := lH (K.out.trans k4)
            clear k4 c0 d0 c1 d1 c2 d2 c3 d3 c4 d4 c5 d5 c6 d6 c7 d7 c8 d8 c9 d9 c10 d10
            obtain ⟨⟨c0, c1, c2, c3, c4, c5, c6, c7, c8, c9, c10⟩, d0, d1, d2, d3, d4, d5, d6, d7, d8, d9, d10⟩ := HC.out _ K.out
            go_wp2_with fail
            refine (rsameTR (HH.out.sel.kept (HK0.out.trans K.out)) (GG.out.sel.kept (HK0.out.trans K.out)) B5.out).mono ?_
            rintro e w5 ⟨rfl, k5⟩
            have K := lH (K.out.trans k5)
            clear k5 c0 d0 c1 d1 c2 d2 c3 d3 c4 d4 c5 d5 c6 d6 c7 d7 c8 d8 c9 d9 c10 d10
            obtain ⟨⟨c0, c1, c2, c3, c4, c5, c6, c7, c8, c9, c10⟩, d0, d1, d2, d3, d4, d5, d6, d7, d8, d9, d10⟩ := HC.out _ K.out
            go_wp2_with fail
            refine (rsameOR (HH.out.tols.kept (HK0.out.trans K.out)) (GG.out.tols.kept (HK0.out.trans K.out)) B6.out).mono ?_
            rintro e w6 ⟨rfl, k6⟩
            have K := lH (K.out.trans k6)
            clear k6 c0 d0 c1 d1 c2 d2 c3 d3 c4 d4 c5 d5 c6 d6 c7 d7 c8 d8 c9 d9 c10 d10
            obtain ⟨⟨c0, c1, c2, c3, c4, c5, c6, c7, c8, c9, c10⟩, d0, d1, d2, d3, d4, d5, d6, d7, d8, d9, d10⟩ := HC.out _ K.out
            go_wp2
            go_ret
            exact ⟨ret_bool HV.out.symm, HK0.out.trans K.out⟩
           | true =>
            have HV := lH (show samePd n m = true by rw [HV0.out]; rfl)
            go_enter Tryz.func42, Tryz.ntmps42
            have K := lH (Kept.refl W0)
            go_wp2_with fail
            try rw [hW0]
            refine (Vec.rsameR (HH.out.need.kept (HK0.out.trans K.out)) (GG.out.need.kept (HK0.out.trans K.out)) B3.out).mono ?_
            rintro e w3 ⟨rfl, k3⟩
            have K := lH (K.out.trans k3)
            clear k3 c0 d0 c1 d1 c2 d2 c3 d3 c4 d4 c5 d5 c6 d6 c7 d7 c8 d8 c9 d9 c10 d10
            obtain ⟨⟨c0, c1, c2, c3, c4, c5, c6, c7, c8, c9, c10⟩, d0, d1, d2, d3, d4, d5, d6, d7, d8, d9, d10⟩ := HC.out _ K.out
            go_wp2_with fail
            refine (rsamePR (HH.out.labels.kept (HK0.out.trans K.out)) (GG.out.labels.kept (HK0.out.trans K.out)) B4.out).mono ?_
            rintro e w4 ⟨rfl, k4⟩
            have K := lH (K.out.trans k4)
            clear k4 c0 d0 c1 d1 c2 d2 c3 d3 c4 d4 c5 d5 c6 d6 c7 d7 c8 d8 c9 d9 c10 d10
            obtain ⟨⟨c0, c1, c2, c3, c4, c5, c6, c7, c8, c9, c10⟩, d0, d1, d2, d3, d4, d5, d6, d7, d8, d9, d10⟩ := HC.out _ K.out
            go_wp2_with fail
            refine (rsameTR (HH.out.sel.kept (HK0.out.trans K.out)) (GG.out.sel.kept (HK0.out.trans K.out)) B5.out).mono ?_
            rintro e w5 ⟨rfl, k5⟩
            have K := lH (K.out.trans k5)
            clear k5 c0 d0 c1 d1 c2 d2 c3 d3 c4 d4 c5 d5 c6 d6 c7 d7 c8 d8 c9 d9 c10 d10
            obtain ⟨⟨c0, c1, c2, c3, c4, c5, c6, c7, c8, c9, c10⟩, d0, d1, d2, d3, d4, d5, d6, d7, d8, d9, d10⟩ := HC.out _ K.out
            go_wp2_with fail
            refine (rsameOR (HH.out.tols.kept (HK0.out.trans K.out)) (GG.out.tols.kept (HK0.out.trans K.out)) B6.out).mono ?_
            rintro e w6 ⟨rfl, k6⟩
            have K := lH (K.out.trans k6)
            clear k6 c0 d0 c1 d1 c2 d2 c3 d3 c4 d4 c5 d5 c6 d6 c7 d7 c8 d8 c9 d9 c10 d10
            obtain ⟨⟨c0, c1, c2, c3, c4, c5, c6, c7, c8, c9, c10⟩, d0, d1, d2, d3, d4, d5, d6, d7, d8, d9, d10⟩ := HC.out _ K.out
            go_wp2
            go_ret
            exact ⟨ret_bool HV.out.symm, HK0.out.trans K.out⟩
theorem rsamePodR {v u : Value} {n m : Pd} {b : Bool} {w : World} (h : PodR w v n) (g : PodR w u m) (hb : samePd n m = b) : Calls Tryz.prog 42 #[v, u] w (Say (.bool b) w) := by
 subst hb
 obtain ⟨v1, v2, v3, v4, rfl, h⟩ := h
 obtain ⟨u1, u2, u3, u4, rfl, g⟩ := g
 exact rsamePod_any n m v1 v2 v3 v4 u1 u2 u3 u4 w h g
end Go.Proofs.YtfpgekjhcfoohaaGreat
