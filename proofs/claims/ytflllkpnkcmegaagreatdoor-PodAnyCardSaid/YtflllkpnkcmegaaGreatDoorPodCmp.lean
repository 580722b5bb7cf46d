/- Which pod is ahead. -/
import Derived.Test.YtflllkpnkcmegaaGreatDoorPodBase
namespace Go.Proofs.YtflllkpnkcmegaaGreatDoor
open Go.RowKit
set_option linter.unusedVariables false

def cmpI (a b : Int) : Int := if a < b then -1 else if b < a then 1 else 0
def cmpS (a b : ByteArray) : Int := if ltS a b = true then -1 else if eqS a b = true then 0 else 1
def cmpPd (n m : Pd) : Int := if cmpI m.prio n.prio ≠ 0 then cmpI m.prio n.prio else cmpS n.name m.name

theorem nanI_any (x : Int) (w : World) : Calls Tryz.prog 112 #[.int .i64 x] w fun e w' => e = .returned (.bool false) ∧ w = w' := by
  have h : (x != x) = false := by simp
  go_enter Tryz.func112, Tryz.ntmps112
  go_wp2
  go_ret
  exact ⟨rfl, rfl⟩
theorem nanS_any (x : ByteArray) (w : World) : Calls Tryz.prog 113 #[.string x] w fun e w' => e = .returned (.bool false) ∧ w = w' := by
  have h : (x.toList == x.toList) = true := by simp
  go_enter Tryz.func113, Tryz.ntmps113
  go_wp2
  go_ret
  exact ⟨rfl, rfl⟩
theorem cmpI_any (a b : Int) (w : World) : Calls Tryz.prog 72 #[.int .i64 a, .int .i64 b] w fun e w' => e = .returned (.int .i64 (cmpI a b)) ∧ w = w' := by
  have HA := Lib.hid (nanI_any a w)
  have HB := Lib.hid (nanI_any b w)
  by_cases h : a < b
  · have HV := Lib.hid (show cmpI a b = -1 by unfold cmpI; rw [if_pos h])
    go_enter Tryz.func72, Tryz.ntmps72
    go_wp2_with fail
    refine HA.out.mono ?_
    rintro e w1 ⟨rfl, rfl⟩
    go_wp2_with fail
    refine HB.out.mono ?_
    rintro e w2 ⟨rfl, rfl⟩
    go_wp2
    go_ret
    exact ⟨ret_i64 HV.out.symm, rfl⟩
  · have h' : b ≤ a := by omega
    by_cases g : b < a
    · have HV := Lib.hid (show cmpI a b = 1 by unfold cmpI; rw [if_neg h, if_pos g])
      clear h
      go_enter Tryz.func72, Tryz.ntmps72
      go_wp2_with fail
      refine HA.out.mono ?_
      rintro e w1 ⟨rfl, rfl⟩
      go_wp2_with fail
      refine HB.out.mono ?_
      rintro e w2 ⟨rfl, rfl⟩
      go_wp2
      go_ret
      exact ⟨ret_i64 HV.out.symm, rfl⟩
    · have g' : a ≤ b := by omega
      have HV := Lib.hid (show cmpI a b = 0 by unfold cmpI; rw [if_neg h, if_neg g])
      clear h g
      go_enter Tryz.func72, Tryz.ntmps72
      go_wp2_with fail
      refine HA.out.mono ?_
      rintro e w1 ⟨rfl, rfl⟩
      go_wp2_with fail
      refine HB.out.mono ?_
      rintro e w2 ⟨rfl, rfl⟩
      go_wp2
      go_ret
      exact ⟨ret_i64 HV.out.symm, rfl⟩
theorem cmpS_any (a b : ByteArray) (w : World) : Calls Tryz.prog 73 #[.string a, .string b] w fun e w' => e = .returned (.int .i64 (cmpS a b)) ∧ w = w' := by
  have HA := Lib.hid (nanS_any a w)
  have HB := Lib.hid (nanS_any b w)
  cases h : ltS a b with
  | true =>
    have h' : Op.bytesLess a.toList b.toList = true := h
    have HV := Lib.hid (show cmpS a b = -1 by unfold cmpS; rw [if_pos h])
    clear h
    go_enter Tryz.func73, Tryz.ntmps73
    go_wp2_with fail
    refine HA.out.mono ?_
    rintro e w1 ⟨rfl, rfl⟩
    go_wp2_with fail
    refine HB.out.mono ?_
    rintro e w2 ⟨rfl, rfl⟩
    go_wp2
    go_ret
    exact ⟨ret_i64 HV.out.symm, rfl⟩
  | false =>
    have h' : Op.bytesLess a.toList b.toList = false := h
    cases g : eqS a b with
    | true =>
      have g' : (a.toList == b.toList) = true := g
      have HV := Lib.hid (show cmpS a b = 0 by unfold cmpS; rw [if_neg (by rw [h]; decide), if_pos g])
      clear h g
      go_enter Tryz.func73, Tryz.ntmps73
      go_wp2_with fail
      refine HA.out.mono ?_
      rintro e w1 ⟨rfl, rfl⟩
      go_wp2_with fail
      refine HB.out.mono ?_
      rintro e w2 ⟨rfl, rfl⟩
      go_wp2
      go_ret
      exact ⟨ret_i64 HV.out.symm, rfl⟩
    | false =>
      have g' : (a.toList == b.toList) = false := g
      have HV := Lib.hid (show cmpS a b = 1 by unfold cmpS; rw [if_neg (by rw [h]; decide), if_neg (by rw [g]; decide)])
      clear h g
      go_enter Tryz.func73, Tryz.ntmps73
      go_wp2_with fail
      refine HA.out.mono ?_
      rintro e w1 ⟨rfl, rfl⟩
      go_wp2_with fail
      refine HB.out.mono ?_
      rintro e w2 ⟨rfl, rfl⟩
      go_wp2
      go_ret
      exact ⟨ret_i64 HV.out.symm, rfl⟩
theorem two_ints (W : World) (x y : Int) (T : TypeId) (i : Nat) (z : Int) (hi : ([x, y] : List Int)[i]? = some z) : (W.alloc (.cells #[.int .i64 x, .int .i64 y] T)).cell? ⟨W.heap.size, i, none⟩ = some (.int .i64 z) := by
  refine (freshN W (.int .i64 x) [.int .i64 y] T _ (Kept.refl _)).at_ i _ ?_
  match i, hi with
  | 0, h => simpa using h
  | 1, h => simpa using h
  | j + 2, h => simp at h
set_option maxRecDepth 100000 in
set_option maxHeartbeats 1600000 in
theorem cmpPd_any (n m : Pd) (v1 v2 v3 v4 u1 u2 u3 u4 : Value) (w : World) :
    Calls Tryz.prog 17 #[PodV n v1 v2 v3 v4, PodV m u1 u2 u3 u4] w (Say (.int .i64 (cmpPd n m)) w) := by
  obtain ⟨W0, hW0⟩ : ∃ W0, (w.alloc (.cells #[.string n.name, .string n.owner, .int .i64 n.prio, v1, v2, v3, v4, .string n.key, .int .i64 n.most, .string n.node, .bool n.hold] 30)).alloc (.cells #[.string m.name, .string m.owner, .int .i64 m.prio, u1, u2, u3, u4, .string m.key, .int .i64 m.most, .string m.node, .bool m.hold] 30) = W0 := ⟨_, rfl⟩
  have hk0 : Kept w W0 := by rw [← hW0]; exact kept_two _ _ _
  have HC := Lib.hid (show ∀ W, Kept W0 W → W.cell? ⟨w.heap.size, 0, none⟩ = some (.string n.name) ∧ W.cell? ⟨w.heap.size, 2, none⟩ = some (.int .i64 n.prio) ∧ W.cell? ⟨w.heap.size + 1, 0, none⟩ = some (.string m.name) ∧ W.cell? ⟨w.heap.size + 1, 2, none⟩ = some (.int .i64 m.prio) from fun W k => by
    have c := freshN w (.string n.name) [.string n.owner, .int .i64 n.prio, v1, v2, v3, v4, .string n.key, .int .i64 n.most, .string n.node, .bool n.hold] 30 W (by rw [← hW0] at k; exact (kept_alloc _ _).trans k)
    have d := freshN (w.alloc (.cells #[.string n.name, .string n.owner, .int .i64 n.prio, v1, v2, v3, v4, .string n.key, .int .i64 n.most, .string n.node, .bool n.hold] 30)) (.string m.name) [.string m.owner, .int .i64 m.prio, u1, u2, u3, u4, .string m.key, .int .i64 m.most, .string m.node, .bool m.hold] 30 W (by rw [hW0]; exact k)
    rw [World.size_alloc] at d
    exact ⟨c.at_ 0 _ rfl, c.at_ 2 _ rfl, d.at_ 0 _ rfl, d.at_ 2 _ rfl⟩)
  have EI := Lib.hid (fun W => cmpI_any m.prio n.prio W)
  have ES := Lib.hid (fun W => cmpS_any n.name m.name W)
  obtain ⟨x, hx⟩ : ∃ x, cmpI m.prio n.prio = x := ⟨_, rfl⟩
  obtain ⟨y, hy⟩ : ∃ x, cmpS n.name m.name = x := ⟨_, rfl⟩
  rw [hx] at EI
  rw [hy] at ES
  have HV := Lib.hid (show cmpPd n m = orL [x, y] by
    unfold cmpPd
    rw [hx, hy]
    show _ = if x ≠ 0 then x else if y ≠ 0 then y else 0
    by_cases z : y = 0
    · subst z; simp
    · rw [if_pos z])
  have HOR := Lib.hid (show Calls Tryz.prog 71 #[.slice (some ⟨W0.heap.size, 0, none⟩) 2 2] (W0.drew.alloc (.cells #[.int .i64 x, .int .i64 y] 3)) _ from orI_any W0.heap.size 2 [x, y] _ rfl (by decide) (two_ints W0.drew x y 3))
  have HK0 := Lib.hid hk0
  clear hx hy hk0
  obtain ⟨c0, c1, c2, c3⟩ := HC.out _ (Kept.refl _)
  unfold PodV
  go_enter Tryz.func17, Tryz.ntmps17
  go_wp2
  try rw [hW0]
  clear hW0
  go_region_held3 (fun W => W.cell? ⟨w.heap.size, 0, none⟩ = some (.string n.name) ∧ W.cell? ⟨w.heap.size, 2, none⟩ = some (.int .i64 n.prio) ∧ W.cell? ⟨w.heap.size + 1, 0, none⟩ = some (.string m.name) ∧ W.cell? ⟨w.heap.size + 1, 2, none⟩ = some (.int .i64 m.prio))
    (first | exact HC.out _ (Kept.drew _) | exact HC.out _ ((Kept.drew _).trans (kept_alloc _ _)))
    (first | (go_at_call 72; refine (EI.out _).mono ?_; rintro e1 w1 ⟨rfl, rfl⟩)
           | (go_at_call 73; refine (ES.out _).mono ?_; rintro e2 w2 ⟨rfl, rfl⟩)
           | (go_at_call 71; refine HOR.out.mono ?_; rintro e3 w3 ⟨rfl, rfl⟩))
  go_wp2
  go_ret
  exact ⟨ret_i64 HV.out.symm, HK0.out.trans ((Kept.drew _).trans (kept_alloc _ _))⟩
theorem cmpPdR {v u : Value} {n m : Pd} {c : Int} {w : World} (h : PodR w v n) (g : PodR w u m) (hc : cmpPd n m = c) : Calls Tryz.prog 17 #[v, u] w (Say (.int .i64 c) w) := by
  subst hc
  obtain ⟨v1, v2, v3, v4, rfl, h⟩ := h
  obtain ⟨u1, u2, u3, u4, rfl, g⟩ := g
  exact cmpPd_any n m v1 v2 v3 v4 u1 u2 u3 u4 w
set_option maxRecDepth 100000 in
set_option maxHeartbeats 1600000 in
theorem rcmpPd_any (n m : Pd) (v1 v2 v3 v4 u1 u2 u3 u4 : Value) (w : World) :
    Calls Tryz.prog 18 #[PodV n v1 v2 v3 v4, PodV m u1 u2 u3 u4] w (Say (.int .i64 (cmpPd n m)) w) := by
  obtain ⟨W0, hW0⟩ : ∃ W0, (w.alloc (.cells #[.string n.name, .string n.owner, .int .i64 n.prio, v1, v2, v3, v4, .string n.key, .int .i64 n.most, .string n.node, .bool n.hold] 38)).alloc (.cells #[.string m.name, .string m.owner, .int .i64 m.prio, u1, u2, u3, u4, .string m.key, .int .i64 m.most, .string m.node, .bool m.hold] 38) = W0 := ⟨_, rfl⟩
  have hk0 : Kept w W0 := by rw [← hW0]; exact kept_two _ _ _
  have HC := Lib.hid (show ∀ W, Kept W0 W → W.cell? ⟨w.heap.size, 0, none⟩ = some (.string n.name) ∧ W.cell? ⟨w.heap.size, 2, none⟩ = some (.int .i64 n.prio) ∧ W.cell? ⟨w.heap.size + 1, 0, none⟩ = some (.string m.name) ∧ W.cell? ⟨w.heap.size + 1, 2, none⟩ = some (.int .i64 m.prio) from fun W k => by
    have c := freshN w (.string n.name) [.string n.owner, .int .i64 n.prio, v1, v2, v3, v4, .string n.key, .int .i64 n.most, .string n.node, .bool n.hold] 38 W (by rw [← hW0] at k; exact (kept_alloc _ _).trans k)
    have d := freshN (w.alloc (.cells #[.string n.name, .string n.owner, .int .i64 n.prio, v1, v2, v3, v4, .string n.key, .int .i64 n.most, .string n.node, .bool n.hold] 38)) (.string m.name) [.string m.owner, .int .i64 m.prio, u1, u2, u3, u4, .string m.key, .int .i64 m.most, .string m.node, .bool m.hold] 38 W (by rw [hW0]; exact k)
    rw [World.size_alloc] at d
    exact ⟨c.at_ 0 _ rfl, c.at_ 2 _ rfl, d.at_ 0 _ rfl, d.at_ 2 _ rfl⟩)
  have HK0 := Lib.hid hk0
  clear hk0
  obtain ⟨c0, c1, c2, c3⟩ := HC.out _ (Kept.refl _)
  unfold PodV
  by_cases h : m.prio < n.prio
  · have HV := Lib.hid (show cmpPd n m = -1 by unfold cmpPd cmpI; rw [if_pos h, if_pos (by decide)])
    go_enter Tryz.func18, Tryz.ntmps18
    go_wp2
    try rw [hW0]
    go_ret
    exact ⟨ret_i64 HV.out.symm, HK0.out⟩
  · have h' : n.prio ≤ m.prio := by omega
    by_cases g : n.prio < m.prio
    · have HV := Lib.hid (show cmpPd n m = 1 by unfold cmpPd cmpI; rw [if_neg h, if_pos g, if_pos (by decide)])
      clear h
      go_enter Tryz.func18, Tryz.ntmps18
      go_wp2
      try rw [hW0]
      go_ret
      exact ⟨ret_i64 HV.out.symm, HK0.out⟩
    · have g' : m.prio ≤ n.prio := by omega
      have HV0 := Lib.hid (show cmpPd n m = cmpS n.name m.name by unfold cmpPd cmpI; rw [if_neg h, if_neg g, if_neg (by decide)])
      clear h g
      cases h : ltS n.name m.name with
      | true =>
        have HV := Lib.hid (show cmpPd n m = -1 by rw [HV0.out]; unfold cmpS; rw [if_pos h])
        have q : Op.bytesLess n.name.toList m.name.toList = true := h
        clear h
        go_enter Tryz.func18, Tryz.ntmps18
        go_wp2
        try rw [hW0]
        go_ret
        exact ⟨ret_i64 HV.out.symm, HK0.out⟩
      | false =>
        have q : Op.bytesLess n.name.toList m.name.toList = false := h
        cases g : eqS n.name m.name with
        | true =>
          have HV := Lib.hid (show cmpPd n m = 0 by rw [HV0.out]; unfold cmpS; rw [if_neg (by rw [h]; decide), if_pos g])
          have q2 : (n.name.toList == m.name.toList) = true := g
          clear h g
          go_enter Tryz.func18, Tryz.ntmps18
          go_wp2
          try rw [hW0]
          go_ret
          exact ⟨ret_i64 HV.out.symm, HK0.out⟩
        | false =>
          have HV := Lib.hid (show cmpPd n m = 1 by rw [HV0.out]; unfold cmpS; rw [if_neg (by rw [h]; decide), if_neg (by rw [g]; decide)])
          have q2 : (n.name.toList == m.name.toList) = false := g
          clear h g
          go_enter Tryz.func18, Tryz.ntmps18
          go_wp2
          try rw [hW0]
          go_ret
          exact ⟨ret_i64 HV.out.symm, HK0.out⟩
theorem rcmpPdR {v u : Value} {n m : Pd} {c : Int} {w : World} (h : PodR w v n) (g : PodR w u m) (hc : cmpPd n m = c) : Calls Tryz.prog 18 #[v, u] w (Say (.int .i64 c) w) := by
  subst hc
  obtain ⟨v1, v2, v3, v4, rfl, h⟩ := h
  obtain ⟨u1, u2, u3, u4, rfl, g⟩ := g
  exact rcmpPd_any n m v1 v2 v3 v4 u1 u2 u3 u4 w

end Go.Proofs.YtflllkpnkcmegaaGreatDoor
