/- PodOrder: the walk. -/
import Derived.Test.YtflllkpnkcmegaaGreatDoorPodKnown
import Derived.Test.YtflllkpnkcmegaaGreatDoorPodFew
import Derived.Test.YtflllkpnkcmegaaGreatDoorLabIns
import Derived.Deep.RegionWith
namespace Go.Proofs.YtflllkpnkcmegaaGreatDoor
open Go.RowKit
set_option linter.unusedVariables false

theorem cmpI_swap (a b : Int) : cmpI b a = -cmpI a b := by
  unfold cmpI
  by_cases h : a < b
  · rw [if_neg (by omega), if_pos h, if_pos h]; rfl
  · by_cases g : b < a
    · rw [if_pos g, if_neg h, if_pos g]
    · rw [if_neg g, if_neg h, if_neg h, if_neg g]; rfl
theorem cmpS_swap (x y : ByteArray) : cmpS y x = -cmpS x y := by
  unfold cmpS
  cases h : ltS x y with
  | true =>
    have e : eqS y x = false := by
      cases q : eqS y x with
      | false => rfl
      | true => rw [eqS_iff.1 q, lt_irrefl'] at h; cases h
    rw [if_neg (by rw [lt_asymm' h]; decide), if_neg (by rw [e]; decide), if_pos rfl]; rfl
  | false =>
    cases q : eqS x y with
    | true =>
      have e := eqS_iff.1 q
      subst e
      rw [if_neg (by rw [lt_irrefl']; decide), if_pos (eqS_self _), if_neg (by decide), if_pos rfl]; rfl
    | false =>
      have ne : x ≠ y := fun e => by rw [e, eqS_self] at q; cases q
      rw [if_pos (lt_other h ne), if_neg (by decide), if_neg (by decide)]
theorem cmpI_zero {a b : Int} : cmpI a b = 0 ↔ a = b := by
  unfold cmpI
  by_cases h : a < b
  · rw [if_pos h]; constructor <;> intro g <;> omega
  · by_cases g : b < a
    · rw [if_neg h, if_pos g]; constructor <;> intro q <;> omega
    · rw [if_neg h, if_neg g]; constructor <;> intro q <;> omega
theorem cmpS_zero {x y : ByteArray} : cmpS x y = 0 ↔ eqS x y = true := by
  unfold cmpS
  cases h : ltS x y with
  | true =>
    rw [if_pos rfl]
    constructor
    · intro q; cases q
    · intro q; rw [eqS_iff.1 q, lt_irrefl'] at h; cases h
  | false =>
    rw [if_neg (by decide)]
    cases q : eqS x y with
    | true => simp
    | false => simp
theorem cmpPd_swap (n m : Pd) : cmpPd m n = -cmpPd n m := by
  unfold cmpPd
  rw [cmpI_swap m.prio n.prio, cmpS_swap n.name m.name]
  by_cases z : cmpI m.prio n.prio = 0
  · rw [if_neg (by rw [z]; decide), if_neg (by rw [z]; decide)]
  · rw [if_pos (by omega), if_pos z]
theorem cmpPd_zero (n m : Pd) : (cmpPd n m == 0) = ((n.prio == m.prio) && eqS n.name m.name) := by
  unfold cmpPd
  by_cases z : cmpI m.prio n.prio = 0
  · have e := cmpI_zero.1 z
    rw [if_neg (by rw [z]; decide), e]
    cases q : eqS n.name m.name with
    | true => rw [cmpS_zero.2 q]; simp
    | false =>
      have : cmpS n.name m.name ≠ 0 := fun h => by rw [cmpS_zero.1 h] at q; cases q
      simp [this]
  · have ne : ¬ m.prio = n.prio := fun e => z (cmpI_zero.2 e)
    have ne' : (n.prio == m.prio) = false := by simp; omega
    rw [if_pos z, ne']
    simp [z]
theorem cmpPd_neg (n m : Pd) : cmpPd n m < 0 ↔ (m.prio < n.prio ∨ (m.prio = n.prio ∧ ltS n.name m.name = true)) := by
  unfold cmpPd cmpI cmpS
  by_cases h : m.prio < n.prio
  · rw [if_pos h, if_pos (by decide)]
    exact ⟨fun _ => .inl h, fun _ => by decide⟩
  · by_cases g : n.prio < m.prio
    · rw [if_neg h, if_pos g, if_pos (by decide)]
      exact ⟨fun q => absurd q (by decide), fun q => by omega⟩
    · rw [if_neg h, if_neg g, if_neg (by decide)]
      have e : m.prio = n.prio := by omega
      cases q : ltS n.name m.name with
      | true => rw [if_pos rfl]; exact ⟨fun _ => .inr ⟨e, rfl⟩, fun _ => by decide⟩
      | false =>
        rw [if_neg (by decide)]
        refine ⟨fun q2 => ?_, fun q2 => ?_⟩
        · split at q2 <;> exact absurd q2 (by decide)
        · rcases q2 with q2 | ⟨_, q2⟩
          · omega
          · cases q2
theorem cmpPd_trans {a b c : Pd} (h : cmpPd a b < 0) (g : cmpPd b c < 0) : cmpPd a c < 0 := by
  rw [cmpPd_neg] at h g ⊢
  rcases h with h | ⟨h1, h2⟩
  · rcases g with g | ⟨g1, g2⟩
    · exact .inl (by omega)
    · exact .inl (by omega)
  · rcases g with g | ⟨g1, g2⟩
    · exact .inl (by omega)
    · exact .inr ⟨by omega, lt_trans' h2 g2⟩
set_option maxRecDepth 100000 in
set_option maxHeartbeats 16000000 in
theorem PodOrder_walk (v0 : Value) (a : Pd) (v1 : Value) (b : Pd) (v2 : Value) (c : Pd) (w : World) (hE : EnvP w) (h0 : PodR w v0 a) (h1 : PodR w v1 b) (h2 : PodR w v2 c) :
    Calls Tryz.prog 5 #[v0, v1, v2] w fun e w' => e = .returned (.bool true) ∧ Kept w w' := by
  obtain ⟨va1, va2, va3, va4, rfl, ha⟩ := h0
  obtain ⟨vb1, vb2, vb3, vb4, rfl, hb⟩ := h1
  obtain ⟨vc1, vc2, vc3, vc4, rfl, hc⟩ := h2
  have HT := Lib.hid (show cmpPd a b < 0 → cmpPd b c < 0 → cmpPd a c < 0 from cmpPd_trans)
  have HZR := cmpPd_zero a b
  have HSW := cmpPd_swap a b
  obtain ⟨a0, a1, a2, la1, la2, la3, la4, a3, a4, a5, a6⟩ := a
  obtain ⟨b0, b1, b2, lb1, lb2, lb3, lb4, b3, b4, b5, b6⟩ := b
  obtain ⟨c0, c1, c2, lc1, lc2, lc3, lc4, c3, c4, c5, c6⟩ := c
  obtain ⟨W0, hW0⟩ : ∃ W0, ((w.alloc (.cells #[.string a0, .string a1, .int .i64 a2, va1, va2, va3, va4, .string a3, .int .i64 a4, .string a5, .bool a6] 30)).alloc (.cells #[.string b0, .string b1, .int .i64 b2, vb1, vb2, vb3, vb4, .string b3, .int .i64 b4, .string b5, .bool b6] 30)).alloc (.cells #[.string c0, .string c1, .int .i64 c2, vc1, vc2, vc3, vc4, .string c3, .int .i64 c4, .string c5, .bool c6] 30) = W0 := ⟨_, rfl⟩
  have hk0 : Kept w W0 := by rw [← hW0]; exact (kept_two _ _ _).trans (kept_alloc _ _)
  have CA := Lib.hid (fun W (k : Kept W0 W) => show CellsN w.heap.size [.string a0, .string a1, .int .i64 a2, va1, va2, va3, va4, .string a3, .int .i64 a4, .string a5, .bool a6] W from freshN w (.string a0) [.string a1, .int .i64 a2, va1, va2, va3, va4, .string a3, .int .i64 a4, .string a5, .bool a6] 30 W (by rw [← hW0] at k; exact (kept_two _ _ _).trans k))
  have CB := Lib.hid (fun W (k : Kept W0 W) => show CellsN (w.heap.size + 1) [.string b0, .string b1, .int .i64 b2, vb1, vb2, vb3, vb4, .string b3, .int .i64 b4, .string b5, .bool b6] W by
    have d := freshN (w.alloc (.cells #[.string a0, .string a1, .int .i64 a2, va1, va2, va3, va4, .string a3, .int .i64 a4, .string a5, .bool a6] 30)) (.string b0) [.string b1, .int .i64 b2, vb1, vb2, vb3, vb4, .string b3, .int .i64 b4, .string b5, .bool b6] 30 W (by rw [← hW0] at k; exact (kept_alloc _ _).trans k)
    rw [World.size_alloc] at d
    exact d)
  have CC := Lib.hid (fun W (k : Kept W0 W) => show CellsN (w.heap.size + 2) [.string c0, .string c1, .int .i64 c2, vc1, vc2, vc3, vc4, .string c3, .int .i64 c4, .string c5, .bool c6] W by
    have d := freshN ((w.alloc (.cells #[.string a0, .string a1, .int .i64 a2, va1, va2, va3, va4, .string a3, .int .i64 a4, .string a5, .bool a6] 30)).alloc (.cells #[.string b0, .string b1, .int .i64 b2, vb1, vb2, vb3, vb4, .string b3, .int .i64 b4, .string b5, .bool b6] 30)) (.string c0) [.string c1, .int .i64 c2, vc1, vc2, vc3, vc4, .string c3, .int .i64 c4, .string c5, .bool c6] 30 W (by rw [hW0]; exact k)
    rw [World.size_alloc, World.size_alloc] at d
    exact d)
  have HKN := Lib.hid (Pk.known_any W0 (hE.kept hk0))
  have RA := Lib.hid (fun W (k : Kept W0 W) => show PodR W (.agg #[.string a0, .string a1, .int .i64 a2, va1, va2, va3, va4, .string a3, .int .i64 a4, .string a5, .bool a6]) ⟨a0, a1, a2, la1, la2, la3, la4, a3, a4, a5, a6⟩ from ⟨_, _, _, _, rfl, ha.kept (hk0.trans k)⟩)
  have RB := Lib.hid (fun W (k : Kept W0 W) => show PodR W (.agg #[.string b0, .string b1, .int .i64 b2, vb1, vb2, vb3, vb4, .string b3, .int .i64 b4, .string b5, .bool b6]) ⟨b0, b1, b2, lb1, lb2, lb3, lb4, b3, b4, b5, b6⟩ from ⟨_, _, _, _, rfl, hb.kept (hk0.trans k)⟩)
  have RC := Lib.hid (fun W (k : Kept W0 W) => show PodR W (.agg #[.string c0, .string c1, .int .i64 c2, vc1, vc2, vc3, vc4, .string c3, .int .i64 c4, .string c5, .bool c6]) ⟨c0, c1, c2, lc1, lc2, lc3, lc4, c3, c4, c5, c6⟩ from ⟨_, _, _, _, rfl, hc.kept (hk0.trans k)⟩)
  have HK0 := Lib.hid hk0
  obtain ⟨fa, hfa⟩ : ∃ f, fewPd ⟨a0, a1, a2, la1, la2, la3, la4, a3, a4, a5, a6⟩ = f := ⟨_, rfl⟩
  have FA := Lib.hid hfa
  obtain ⟨fb, hfb⟩ : ∃ f, fewPd ⟨b0, b1, b2, lb1, lb2, lb3, lb4, b3, b4, b5, b6⟩ = f := ⟨_, rfl⟩
  have FB := Lib.hid hfb
  obtain ⟨fc, hfc⟩ : ∃ f, fewPd ⟨c0, c1, c2, lc1, lc2, lc3, lc4, c3, c4, c5, c6⟩ = f := ⟨_, rfl⟩
  have FC := Lib.hid hfc
  obtain ⟨x, hx⟩ : ∃ x, cmpPd ⟨a0, a1, a2, la1, la2, la3, la4, a3, a4, a5, a6⟩ ⟨b0, b1, b2, lb1, lb2, lb3, lb4, b3, b4, b5, b6⟩ = x := ⟨_, rfl⟩
  have HX := Lib.hid hx
  obtain ⟨y, hy⟩ : ∃ x, cmpPd ⟨b0, b1, b2, lb1, lb2, lb3, lb4, b3, b4, b5, b6⟩ ⟨c0, c1, c2, lc1, lc2, lc3, lc4, c3, c4, c5, c6⟩ = x := ⟨_, rfl⟩
  have HY := Lib.hid hy
  obtain ⟨z, hz⟩ : ∃ x, cmpPd ⟨a0, a1, a2, la1, la2, la3, la4, a3, a4, a5, a6⟩ ⟨c0, c1, c2, lc1, lc2, lc3, lc4, c3, c4, c5, c6⟩ = x := ⟨_, rfl⟩
  have HZ := Lib.hid hz
  obtain ⟨u, hu⟩ : ∃ x, cmpPd ⟨b0, b1, b2, lb1, lb2, lb3, lb4, b3, b4, b5, b6⟩ ⟨a0, a1, a2, la1, la2, la3, la4, a3, a4, a5, a6⟩ = x := ⟨_, rfl⟩
  have HU := Lib.hid hu
  rw [hx, hy, hz] at HT
  rw [hx] at HZR
  rw [hx, hu] at HSW
  have hsum : IntKind.i64.wrap (x + u) = 0 := by rw [HSW]; rw [show x + -x = 0 by omega]; rfl
  obtain ⟨e1, he1⟩ : ∃ e, (x == 0) = e := ⟨_, rfl⟩
  obtain ⟨e2, he2⟩ : ∃ e, (a2 == b2) = e := ⟨_, rfl⟩
  obtain ⟨e3, he3⟩ : ∃ e, eqS a0 b0 = e := ⟨_, rfl⟩
  have he3' : (a0.toList == b0.toList) = e3 := he3
  have hee : e1 = (e2 && e3) := by rw [← he1, HZR]; dsimp only; rw [he2, he3]
  clear ha hb hc hk0 hE hfa hfb hfc hx hy hz hu HZR HSW he3
  unfold PodV
  dsimp only
  cases fa with
  | false =>
    go_enter Tryz.func5, Tryz.ntmps5
    have K := Lib.hid (Kept.refl W0)
    go_wp2_with fail
    try rw [hW0]
    clear hW0
    refine (HKN.out).mono ?_
    rintro e w1 ⟨rfl, k⟩
    have K := Lib.hid (K.out.trans k)
    clear k
    have C9 := CA.out _ K.out
    have ya0 := C9.at_ 0 _ rfl
    have ya1 := C9.at_ 1 _ rfl
    have ya2 := C9.at_ 2 _ rfl
    have ya3 := C9.at_ 3 _ rfl
    have ya4 := C9.at_ 4 _ rfl
    have ya5 := C9.at_ 5 _ rfl
    have ya6 := C9.at_ 6 _ rfl
    have ya7 := C9.at_ 7 _ rfl
    have ya8 := C9.at_ 8 _ rfl
    have ya9 := C9.at_ 9 _ rfl
    have ya10 := C9.at_ 10 _ rfl
    clear C9
    go_wp2_with fail
    refine (fewPdR (RA.out _ K.out) FA.out).mono ?_
    rintro e w2 ⟨rfl, k⟩
    clear ya0 ya1 ya2 ya3 ya4 ya5 ya6 ya7 ya8 ya9 ya10
    have K := Lib.hid (K.out.trans k)
    clear k
    go_wp2
    go_ret
    exact ⟨rfl, HK0.out.trans K.out⟩
  | true =>
    cases fb with
    | false =>
      go_enter Tryz.func5, Tryz.ntmps5
      have K := Lib.hid (Kept.refl W0)
      go_wp2_with fail
      try rw [hW0]
      clear hW0
      refine (HKN.out).mono ?_
      rintro e w1 ⟨rfl, k⟩
      have K := Lib.hid (K.out.trans k)
      clear k
      have C9 := CA.out _ K.out
      have ya0 := C9.at_ 0 _ rfl
      have ya1 := C9.at_ 1 _ rfl
      have ya2 := C9.at_ 2 _ rfl
      have ya3 := C9.at_ 3 _ rfl
      have ya4 := C9.at_ 4 _ rfl
      have ya5 := C9.at_ 5 _ rfl
      have ya6 := C9.at_ 6 _ rfl
      have ya7 := C9.at_ 7 _ rfl
      have ya8 := C9.at_ 8 _ rfl
      have ya9 := C9.at_ 9 _ rfl
      have ya10 := C9.at_ 10 _ rfl
      clear C9
      go_wp2_with fail
      refine (fewPdR (RA.out _ K.out) FA.out).mono ?_
      rintro e w2 ⟨rfl, k⟩
      clear ya0 ya1 ya2 ya3 ya4 ya5 ya6 ya7 ya8 ya9 ya10
      have K := Lib.hid (K.out.trans k)
      clear k
      have C9 := CB.out _ K.out
      have yb0 := C9.at_ 0 _ rfl
      have yb1 := C9.at_ 1 _ rfl
      have yb2 := C9.at_ 2 _ rfl
      have yb3 := C9.at_ 3 _ rfl
      have yb4 := C9.at_ 4 _ rfl
      have yb5 := C9.at_ 5 _ rfl
      have yb6 := C9.at_ 6 _ rfl
      have yb7 := C9.at_ 7 _ rfl
      have yb8 := C9.at_ 8 _ rfl
      have yb9 := C9.at_ 9 _ rfl
      have yb10 := C9.at_ 10 _ rfl
      clear C9
      go_wp2_with fail
      refine (fewPdR (RB.out _ K.out) FB.out).mono ?_
      rintro e w3 ⟨rfl, k⟩
      clear yb0 yb1 yb2 yb3 yb4 yb5 yb6 yb7 yb8 yb9 yb10
      have K := Lib.hid (K.out.trans k)
      clear k
      go_wp2
      go_ret
      exact ⟨rfl, HK0.out.trans K.out⟩
    | true =>
      cases fc with
      | false =>
        go_enter Tryz.func5, Tryz.ntmps5
        have K := Lib.hid (Kept.refl W0)
        go_wp2_with fail
        try rw [hW0]
        clear hW0
        refine (HKN.out).mono ?_
        rintro e w1 ⟨rfl, k⟩
        have K := Lib.hid (K.out.trans k)
        clear k
        have C9 := CA.out _ K.out
        have ya0 := C9.at_ 0 _ rfl
        have ya1 := C9.at_ 1 _ rfl
        have ya2 := C9.at_ 2 _ rfl
        have ya3 := C9.at_ 3 _ rfl
        have ya4 := C9.at_ 4 _ rfl
        have ya5 := C9.at_ 5 _ rfl
        have ya6 := C9.at_ 6 _ rfl
        have ya7 := C9.at_ 7 _ rfl
        have ya8 := C9.at_ 8 _ rfl
        have ya9 := C9.at_ 9 _ rfl
        have ya10 := C9.at_ 10 _ rfl
        clear C9
        go_wp2_with fail
        refine (fewPdR (RA.out _ K.out) FA.out).mono ?_
        rintro e w2 ⟨rfl, k⟩
        clear ya0 ya1 ya2 ya3 ya4 ya5 ya6 ya7 ya8 ya9 ya10
        have K := Lib.hid (K.out.trans k)
        clear k
        have C9 := CB.out _ K.out
        have yb0 := C9.at_ 0 _ rfl
        have yb1 := C9.at_ 1 _ rfl
        have yb2 := C9.at_ 2 _ rfl
        have yb3 := C9.at_ 3 _ rfl
        have yb4 := C9.at_ 4 _ rfl
        have yb5 := C9.at_ 5 _ rfl
        have yb6 := C9.at_ 6 _ rfl
        have yb7 := C9.at_ 7 _ rfl
        have yb8 := C9.at_ 8 _ rfl
        have yb9 := C9.at_ 9 _ rfl
        have yb10 := C9.at_ 10 _ rfl
        clear C9
        go_wp2_with fail
        refine (fewPdR (RB.out _ K.out) FB.out).mono ?_
        rintro e w3 ⟨rfl, k⟩
        clear yb0 yb1 yb2 yb3 yb4 yb5 yb6 yb7 yb8 yb9 yb10
        have K := Lib.hid (K.out.trans k)
        clear k
        have C9 := CC.out _ K.out
        have yc0 := C9.at_ 0 _ rfl
        have yc1 := C9.at_ 1 _ rfl
        have yc2 := C9.at_ 2 _ rfl
        have yc3 := C9.at_ 3 _ rfl
        have yc4 := C9.at_ 4 _ rfl
        have yc5 := C9.at_ 5 _ rfl
        have yc6 := C9.at_ 6 _ rfl
        have yc7 := C9.at_ 7 _ rfl
        have yc8 := C9.at_ 8 _ rfl
        have yc9 := C9.at_ 9 _ rfl
        have yc10 := C9.at_ 10 _ rfl
        clear C9
        go_wp2_with fail
        refine (fewPdR (RC.out _ K.out) FC.out).mono ?_
        rintro e w4 ⟨rfl, k⟩
        clear yc0 yc1 yc2 yc3 yc4 yc5 yc6 yc7 yc8 yc9 yc10
        have K := Lib.hid (K.out.trans k)
        clear k
        go_wp2
        go_ret
        exact ⟨rfl, HK0.out.trans K.out⟩
      | true =>
        by_cases gx : x < 0
        · by_cases gy : y < 0
          · have gz : z < 0 := HT.out gx gy
            go_enter Tryz.func5, Tryz.ntmps5
            have K := Lib.hid (Kept.refl W0)
            go_wp2_with fail
            try rw [hW0]
            clear hW0
            refine (HKN.out).mono ?_
            rintro e w1 ⟨rfl, k⟩
            have K := Lib.hid (K.out.trans k)
            clear k
            have C9 := CA.out _ K.out
            have ya0 := C9.at_ 0 _ rfl
            have ya1 := C9.at_ 1 _ rfl
            have ya2 := C9.at_ 2 _ rfl
            have ya3 := C9.at_ 3 _ rfl
            have ya4 := C9.at_ 4 _ rfl
            have ya5 := C9.at_ 5 _ rfl
            have ya6 := C9.at_ 6 _ rfl
            have ya7 := C9.at_ 7 _ rfl
            have ya8 := C9.at_ 8 _ rfl
            have ya9 := C9.at_ 9 _ rfl
            have ya10 := C9.at_ 10 _ rfl
            clear C9
            go_wp2_with fail
            refine (fewPdR (RA.out _ K.out) FA.out).mono ?_
            rintro e w2 ⟨rfl, k⟩
            clear ya0 ya1 ya2 ya3 ya4 ya5 ya6 ya7 ya8 ya9 ya10
            have K := Lib.hid (K.out.trans k)
            clear k
            have C9 := CB.out _ K.out
            have yb0 := C9.at_ 0 _ rfl
            have yb1 := C9.at_ 1 _ rfl
            have yb2 := C9.at_ 2 _ rfl
            have yb3 := C9.at_ 3 _ rfl
            have yb4 := C9.at_ 4 _ rfl
            have yb5 := C9.at_ 5 _ rfl
            have yb6 := C9.at_ 6 _ rfl
            have yb7 := C9.at_ 7 _ rfl
            have yb8 := C9.at_ 8 _ rfl
            have yb9 := C9.at_ 9 _ rfl
            have yb10 := C9.at_ 10 _ rfl
            clear C9
            go_wp2_with fail
            refine (fewPdR (RB.out _ K.out) FB.out).mono ?_
            rintro e w3 ⟨rfl, k⟩
            clear yb0 yb1 yb2 yb3 yb4 yb5 yb6 yb7 yb8 yb9 yb10
            have K := Lib.hid (K.out.trans k)
            clear k
            have C9 := CC.out _ K.out
            have yc0 := C9.at_ 0 _ rfl
            have yc1 := C9.at_ 1 _ rfl
            have yc2 := C9.at_ 2 _ rfl
            have yc3 := C9.at_ 3 _ rfl
            have yc4 := C9.at_ 4 _ rfl
            have yc5 := C9.at_ 5 _ rfl
            have yc6 := C9.at_ 6 _ rfl
            have yc7 := C9.at_ 7 _ rfl
            have yc8 := C9.at_ 8 _ rfl
            have yc9 := C9.at_ 9 _ rfl
            have yc10 := C9.at_ 10 _ rfl
            clear C9
            go_wp2_with fail
            refine (fewPdR (RC.out _ K.out) FC.out).mono ?_
            rintro e w4 ⟨rfl, k⟩
            clear yc0 yc1 yc2 yc3 yc4 yc5 yc6 yc7 yc8 yc9 yc10
            have K := Lib.hid (K.out.trans k)
            clear k
            have C9 := CA.out _ K.out
            have ya0 := C9.at_ 0 _ rfl
            have ya1 := C9.at_ 1 _ rfl
            have ya2 := C9.at_ 2 _ rfl
            have ya3 := C9.at_ 3 _ rfl
            have ya4 := C9.at_ 4 _ rfl
            have ya5 := C9.at_ 5 _ rfl
            have ya6 := C9.at_ 6 _ rfl
            have ya7 := C9.at_ 7 _ rfl
            have ya8 := C9.at_ 8 _ rfl
            have ya9 := C9.at_ 9 _ rfl
            have ya10 := C9.at_ 10 _ rfl
            clear C9
            have C9 := CB.out _ K.out
            have yb0 := C9.at_ 0 _ rfl
            have yb1 := C9.at_ 1 _ rfl
            have yb2 := C9.at_ 2 _ rfl
            have yb3 := C9.at_ 3 _ rfl
            have yb4 := C9.at_ 4 _ rfl
            have yb5 := C9.at_ 5 _ rfl
            have yb6 := C9.at_ 6 _ rfl
            have yb7 := C9.at_ 7 _ rfl
            have yb8 := C9.at_ 8 _ rfl
            have yb9 := C9.at_ 9 _ rfl
            have yb10 := C9.at_ 10 _ rfl
            clear C9
            go_wp2_with fail
            refine (cmpPdR (RA.out _ K.out) (RB.out _ K.out) HX.out).mono ?_
            rintro e w5 ⟨rfl, k⟩
            clear ya0 ya1 ya2 ya3 ya4 ya5 ya6 ya7 ya8 ya9 ya10 yb0 yb1 yb2 yb3 yb4 yb5 yb6 yb7 yb8 yb9 yb10
            have K := Lib.hid (K.out.trans k)
            clear k
            have C9 := CB.out _ K.out
            have yb0 := C9.at_ 0 _ rfl
            have yb1 := C9.at_ 1 _ rfl
            have yb2 := C9.at_ 2 _ rfl
            have yb3 := C9.at_ 3 _ rfl
            have yb4 := C9.at_ 4 _ rfl
            have yb5 := C9.at_ 5 _ rfl
            have yb6 := C9.at_ 6 _ rfl
            have yb7 := C9.at_ 7 _ rfl
            have yb8 := C9.at_ 8 _ rfl
            have yb9 := C9.at_ 9 _ rfl
            have yb10 := C9.at_ 10 _ rfl
            clear C9
            have C9 := CC.out _ K.out
            have yc0 := C9.at_ 0 _ rfl
            have yc1 := C9.at_ 1 _ rfl
            have yc2 := C9.at_ 2 _ rfl
            have yc3 := C9.at_ 3 _ rfl
            have yc4 := C9.at_ 4 _ rfl
            have yc5 := C9.at_ 5 _ rfl
            have yc6 := C9.at_ 6 _ rfl
            have yc7 := C9.at_ 7 _ rfl
            have yc8 := C9.at_ 8 _ rfl
            have yc9 := C9.at_ 9 _ rfl
            have yc10 := C9.at_ 10 _ rfl
            clear C9
            go_wp2_with fail
            refine (cmpPdR (RB.out _ K.out) (RC.out _ K.out) HY.out).mono ?_
            rintro e w6 ⟨rfl, k⟩
            clear yb0 yb1 yb2 yb3 yb4 yb5 yb6 yb7 yb8 yb9 yb10 yc0 yc1 yc2 yc3 yc4 yc5 yc6 yc7 yc8 yc9 yc10
            have K := Lib.hid (K.out.trans k)
            clear k
            have C9 := CA.out _ K.out
            have ya0 := C9.at_ 0 _ rfl
            have ya1 := C9.at_ 1 _ rfl
            have ya2 := C9.at_ 2 _ rfl
            have ya3 := C9.at_ 3 _ rfl
            have ya4 := C9.at_ 4 _ rfl
            have ya5 := C9.at_ 5 _ rfl
            have ya6 := C9.at_ 6 _ rfl
            have ya7 := C9.at_ 7 _ rfl
            have ya8 := C9.at_ 8 _ rfl
            have ya9 := C9.at_ 9 _ rfl
            have ya10 := C9.at_ 10 _ rfl
            clear C9
            have C9 := CC.out _ K.out
            have yc0 := C9.at_ 0 _ rfl
            have yc1 := C9.at_ 1 _ rfl
            have yc2 := C9.at_ 2 _ rfl
            have yc3 := C9.at_ 3 _ rfl
            have yc4 := C9.at_ 4 _ rfl
            have yc5 := C9.at_ 5 _ rfl
            have yc6 := C9.at_ 6 _ rfl
            have yc7 := C9.at_ 7 _ rfl
            have yc8 := C9.at_ 8 _ rfl
            have yc9 := C9.at_ 9 _ rfl
            have yc10 := C9.at_ 10 _ rfl
            clear C9
            go_wp2_with fail
            refine (cmpPdR (RA.out _ K.out) (RC.out _ K.out) HZ.out).mono ?_
            rintro e w7 ⟨rfl, k⟩
            clear ya0 ya1 ya2 ya3 ya4 ya5 ya6 ya7 ya8 ya9 ya10 yc0 yc1 yc2 yc3 yc4 yc5 yc6 yc7 yc8 yc9 yc10
            have K := Lib.hid (K.out.trans k)
            clear k
            go_wp2
            have HS := Lib.hid (show ∀ W, Kept w7 W → ((W.cell? ⟨w.heap.size, 0, none⟩ = some (.string a0) ∧ W.cell? ⟨w.heap.size, 1, none⟩ = some (.string a1) ∧ W.cell? ⟨w.heap.size, 2, none⟩ = some (.int .i64 a2) ∧ W.cell? ⟨w.heap.size, 3, none⟩ = some (va1) ∧ W.cell? ⟨w.heap.size, 4, none⟩ = some (va2) ∧ W.cell? ⟨w.heap.size, 5, none⟩ = some (va3) ∧ W.cell? ⟨w.heap.size, 6, none⟩ = some (va4) ∧ W.cell? ⟨w.heap.size, 7, none⟩ = some (.string a3) ∧ W.cell? ⟨w.heap.size, 8, none⟩ = some (.int .i64 a4) ∧ W.cell? ⟨w.heap.size, 9, none⟩ = some (.string a5) ∧ W.cell? ⟨w.heap.size, 10, none⟩ = some (.bool a6)) ∧ (W.cell? ⟨(w.heap.size + 1), 0, none⟩ = some (.string b0) ∧ W.cell? ⟨(w.heap.size + 1), 1, none⟩ = some (.string b1) ∧ W.cell? ⟨(w.heap.size + 1), 2, none⟩ = some (.int .i64 b2) ∧ W.cell? ⟨(w.heap.size + 1), 3, none⟩ = some (vb1) ∧ W.cell? ⟨(w.heap.size + 1), 4, none⟩ = some (vb2) ∧ W.cell? ⟨(w.heap.size + 1), 5, none⟩ = some (vb3) ∧ W.cell? ⟨(w.heap.size + 1), 6, none⟩ = some (vb4) ∧ W.cell? ⟨(w.heap.size + 1), 7, none⟩ = some (.string b3) ∧ W.cell? ⟨(w.heap.size + 1), 8, none⟩ = some (.int .i64 b4) ∧ W.cell? ⟨(w.heap.size + 1), 9, none⟩ = some (.string b5) ∧ W.cell? ⟨(w.heap.size + 1), 10, none⟩ = some (.bool b6))) from fun W k => by
              have h := CA.out W (K.out.trans k)
              have g := CB.out W (K.out.trans k)
              exact ⟨⟨h.at_ 0 _ rfl, h.at_ 1 _ rfl, h.at_ 2 _ rfl, h.at_ 3 _ rfl, h.at_ 4 _ rfl, h.at_ 5 _ rfl, h.at_ 6 _ rfl, h.at_ 7 _ rfl, h.at_ 8 _ rfl, h.at_ 9 _ rfl, h.at_ 10 _ rfl⟩, ⟨g.at_ 0 _ rfl, g.at_ 1 _ rfl, g.at_ 2 _ rfl, g.at_ 3 _ rfl, g.at_ 4 _ rfl, g.at_ 5 _ rfl, g.at_ 6 _ rfl, g.at_ 7 _ rfl, g.at_ 8 _ rfl, g.at_ 9 _ rfl, g.at_ 10 _ rfl⟩⟩)
            have KN := Lib.hid (show Kept W0 w7 from K.out)
            cases e2 with
            | true =>
              cases e3 with
              | true =>
                obtain rfl : e1 = true := by rw [hee]; rfl
                clear hee
                refine wp_region_held_drew (S := fun W => ((W.cell? ⟨w.heap.size, 0, none⟩ = some (.string a0) ∧ W.cell? ⟨w.heap.size, 1, none⟩ = some (.string a1) ∧ W.cell? ⟨w.heap.size, 2, none⟩ = some (.int .i64 a2) ∧ W.cell? ⟨w.heap.size, 3, none⟩ = some (va1) ∧ W.cell? ⟨w.heap.size, 4, none⟩ = some (va2) ∧ W.cell? ⟨w.heap.size, 5, none⟩ = some (va3) ∧ W.cell? ⟨w.heap.size, 6, none⟩ = some (va4) ∧ W.cell? ⟨w.heap.size, 7, none⟩ = some (.string a3) ∧ W.cell? ⟨w.heap.size, 8, none⟩ = some (.int .i64 a4) ∧ W.cell? ⟨w.heap.size, 9, none⟩ = some (.string a5) ∧ W.cell? ⟨w.heap.size, 10, none⟩ = some (.bool a6)) ∧ (W.cell? ⟨(w.heap.size + 1), 0, none⟩ = some (.string b0) ∧ W.cell? ⟨(w.heap.size + 1), 1, none⟩ = some (.string b1) ∧ W.cell? ⟨(w.heap.size + 1), 2, none⟩ = some (.int .i64 b2) ∧ W.cell? ⟨(w.heap.size + 1), 3, none⟩ = some (vb1) ∧ W.cell? ⟨(w.heap.size + 1), 4, none⟩ = some (vb2) ∧ W.cell? ⟨(w.heap.size + 1), 5, none⟩ = some (vb3) ∧ W.cell? ⟨(w.heap.size + 1), 6, none⟩ = some (vb4) ∧ W.cell? ⟨(w.heap.size + 1), 7, none⟩ = some (.string b3) ∧ W.cell? ⟨(w.heap.size + 1), 8, none⟩ = some (.int .i64 b4) ∧ W.cell? ⟨(w.heap.size + 1), 9, none⟩ = some (.string b5) ∧ W.cell? ⟨(w.heap.size + 1), 10, none⟩ = some (.bool b6)))) (by kernel_rfl) (HS.out _ (Kept.drew _)) (fun hHeld => ?_)
                refine wpAnyH_take (i := 0) (v := ?_) (by rw [List.getElem?_toArray]; exact rfl) (by kernel_rfl) (by kernel_rfl) (by kernel_rfl) (by exact fun _ _ _ h => h) (Or.inl ⟨by rfl, (by intro W hSw; obtain ⟨⟨q0, q1, q2, q3, q4, q5, q6, q7, q8, q9, q10⟩, r0, r1, r2, r3, r4, r5, r6, r7, r8, r9, r10⟩ := hSw; go_simp <;> with_reducible rfl)⟩) (by assumption) ?_
                try simp only [Act.put, List.setIfInBounds_toArray, List.set_cons_zero, List.set_cons_succ]
                refine wpAnyH_take (i := 1) (v := ?_) (by rw [List.getElem?_toArray]; exact rfl) (by kernel_rfl) (by kernel_rfl) (by kernel_rfl) (by exact fun _ _ _ h => h) (Or.inl ⟨by rfl, (by intro W hSw; obtain ⟨⟨q0, q1, q2, q3, q4, q5, q6, q7, q8, q9, q10⟩, r0, r1, r2, r3, r4, r5, r6, r7, r8, r9, r10⟩ := hSw; go_simp <;> with_reducible rfl)⟩) (by assumption) ?_
                try simp only [Act.put, List.setIfInBounds_toArray, List.set_cons_zero, List.set_cons_succ]
                refine wpAnyH_take (i := 4) (v := ?_) (by rw [List.getElem?_toArray]; exact rfl) (by kernel_rfl) (by kernel_rfl) (by kernel_rfl) (by exact fun _ _ _ h => h) (Or.inl ⟨by rfl, (by intro W hSw; obtain ⟨⟨q0, q1, q2, q3, q4, q5, q6, q7, q8, q9, q10⟩, r0, r1, r2, r3, r4, r5, r6, r7, r8, r9, r10⟩ := hSw; go_simp <;> with_reducible rfl)⟩) (by assumption) ?_
                try simp only [Act.put, List.setIfInBounds_toArray, List.set_cons_zero, List.set_cons_succ]
                refine wpAnyH_take (i := 5) (v := ?_) (by rw [List.getElem?_toArray]; exact rfl) (by kernel_rfl) (by kernel_rfl) (by kernel_rfl) (by exact fun _ _ _ h => h) (Or.inl ⟨by rfl, (by intro W hSw; obtain ⟨⟨q0, q1, q2, q3, q4, q5, q6, q7, q8, q9, q10⟩, r0, r1, r2, r3, r4, r5, r6, r7, r8, r9, r10⟩ := hSw; go_simp <;> with_reducible rfl)⟩) (by assumption) ?_
                try simp only [Act.put, List.setIfInBounds_toArray, List.set_cons_zero, List.set_cons_succ]
                refine wpAnyH_take (i := 6) (v := ?_) (by rw [List.getElem?_toArray]; exact rfl) (by kernel_rfl) (by kernel_rfl) (by kernel_rfl) (by exact fun _ _ _ h => h) (Or.inl ⟨by rfl, (by intro W hSw; obtain ⟨⟨q0, q1, q2, q3, q4, q5, q6, q7, q8, q9, q10⟩, r0, r1, r2, r3, r4, r5, r6, r7, r8, r9, r10⟩ := hSw; go_simp <;> with_reducible rfl)⟩) (by assumption) ?_
                try simp only [Act.put, List.setIfInBounds_toArray, List.set_cons_zero, List.set_cons_succ]
                refine wpAnyH_take (i := 7) (v := ?_) (by rw [List.getElem?_toArray]; exact rfl) (by kernel_rfl) (by kernel_rfl) (by kernel_rfl) (by exact fun _ _ _ h => h) (Or.inl ⟨by rfl, (by intro W hSw; obtain ⟨⟨q0, q1, q2, q3, q4, q5, q6, q7, q8, q9, q10⟩, r0, r1, r2, r3, r4, r5, r6, r7, r8, r9, r10⟩ := hSw; go_simp <;> with_reducible rfl)⟩) (by assumption) ?_
                try simp only [Act.put, List.setIfInBounds_toArray, List.set_cons_zero, List.set_cons_succ]
                refine wpAnyH_take (i := 8) (v := ?_) (by rw [List.getElem?_toArray]; exact rfl) (by kernel_rfl) (by kernel_rfl) (by kernel_rfl) (by exact fun _ _ _ h => h) (Or.inl ⟨by rfl, (by intro W hSw; obtain ⟨⟨q0, q1, q2, q3, q4, q5, q6, q7, q8, q9, q10⟩, r0, r1, r2, r3, r4, r5, r6, r7, r8, r9, r10⟩ := hSw; go_simp <;> with_reducible rfl)⟩) (by assumption) ?_
                try simp only [Act.put, List.setIfInBounds_toArray, List.set_cons_zero, List.set_cons_succ]
                refine wpAnyH_ready (rs := [2]) (by kernel_rfl) (by simp) (AllReadyH.cons (by rw [List.getElem?_toArray]; exact rfl) (fun K9 hK9 => ?_) AllReadyH.nil)
                go_simp
                refine (cmpPdR (RA.out _ (KN.out.trans (Kept.drew _))) (RB.out _ (KN.out.trans (Kept.drew _))) HX.out).mono ?_
                rintro e9 t1 ⟨rfl, k1⟩
                have J1 := Lib.hid ((Kept.drew _).trans k1)
                clear k1
                refine hK9.out _ _ (HS.out _ J1.out) (fun hHeld1 => ?_)
                clear hK9 K9
                try simp only [Act.put, List.setIfInBounds_toArray, List.set_cons_zero, List.set_cons_succ]
                refine wpAnyH_take (i := 3) (v := ?_) (by rw [List.getElem?_toArray]; exact rfl) (by kernel_rfl) (by kernel_rfl) (by kernel_rfl) (by exact fun _ _ _ h => h) (Or.inl ⟨by rfl, (by intro W hSw; obtain ⟨⟨q0, q1, q2, q3, q4, q5, q6, q7, q8, q9, q10⟩, r0, r1, r2, r3, r4, r5, r6, r7, r8, r9, r10⟩ := hSw; go_simp <;> with_reducible rfl)⟩) (by assumption) ?_
                try simp only [Act.put, List.setIfInBounds_toArray, List.set_cons_zero, List.set_cons_succ]
                refine wpAnyH_take (i := 9) (v := ?_) (by rw [List.getElem?_toArray]; exact rfl) (by kernel_rfl) (by kernel_rfl) (by kernel_rfl) (by exact fun _ _ _ h => h) (Or.inl ⟨by rfl, (by intro W hSw; obtain ⟨⟨q0, q1, q2, q3, q4, q5, q6, q7, q8, q9, q10⟩, r0, r1, r2, r3, r4, r5, r6, r7, r8, r9, r10⟩ := hSw; go_simp <;> with_reducible rfl)⟩) (by assumption) ?_
                try simp only [Act.put, List.setIfInBounds_toArray, List.set_cons_zero, List.set_cons_succ]
                refine wpAnyH_take (i := 10) (v := ?_) (by rw [List.getElem?_toArray]; exact rfl) (by kernel_rfl) (by kernel_rfl) (by kernel_rfl) (by exact fun _ _ _ h => h) (Or.inl ⟨by rfl, (by intro W hSw; obtain ⟨⟨q0, q1, q2, q3, q4, q5, q6, q7, q8, q9, q10⟩, r0, r1, r2, r3, r4, r5, r6, r7, r8, r9, r10⟩ := hSw; go_simp <;> with_reducible rfl)⟩) (by assumption) ?_
                try simp only [Act.put, List.setIfInBounds_toArray, List.set_cons_zero, List.set_cons_succ]
                refine wpAnyH_take (i := 11) (v := ?_) (by rw [List.getElem?_toArray]; exact rfl) (by kernel_rfl) (by kernel_rfl) (by kernel_rfl) (by exact fun _ _ _ h => h) (Or.inl ⟨by rfl, (by intro W hSw; obtain ⟨⟨q0, q1, q2, q3, q4, q5, q6, q7, q8, q9, q10⟩, r0, r1, r2, r3, r4, r5, r6, r7, r8, r9, r10⟩ := hSw; go_simp <;> with_reducible rfl)⟩) (by assumption) ?_
                try simp only [Act.put, List.setIfInBounds_toArray, List.set_cons_zero, List.set_cons_succ]
                refine wpAnyH_take (i := 12) (v := ?_) (by rw [List.getElem?_toArray]; exact rfl) (by kernel_rfl) (by kernel_rfl) (by kernel_rfl) (by exact fun _ _ _ h => h) (Or.inl ⟨by rfl, (by intro W hSw; obtain ⟨⟨q0, q1, q2, q3, q4, q5, q6, q7, q8, q9, q10⟩, r0, r1, r2, r3, r4, r5, r6, r7, r8, r9, r10⟩ := hSw; go_simp <;> with_reducible rfl)⟩) (by assumption) ?_
                try simp only [Act.put, List.setIfInBounds_toArray, List.set_cons_zero, List.set_cons_succ]
                refine wpAnyH_take (i := 13) (v := ?_) (by rw [List.getElem?_toArray]; exact rfl) (by kernel_rfl) (by kernel_rfl) (by kernel_rfl) (by exact fun _ _ _ h => h) (Or.inl ⟨by rfl, (by intro W hSw; obtain ⟨⟨q0, q1, q2, q3, q4, q5, q6, q7, q8, q9, q10⟩, r0, r1, r2, r3, r4, r5, r6, r7, r8, r9, r10⟩ := hSw; go_simp <;> with_reducible rfl)⟩) (by assumption) ?_
                try simp only [Act.put, List.setIfInBounds_toArray, List.set_cons_zero, List.set_cons_succ]
                refine wpAnyH_take (i := 14) (v := ?_) (by rw [List.getElem?_toArray]; exact rfl) (by kernel_rfl) (by kernel_rfl) (by kernel_rfl) (by exact fun _ _ _ h => h) (Or.inl ⟨by rfl, (by intro W hSw; obtain ⟨⟨q0, q1, q2, q3, q4, q5, q6, q7, q8, q9, q10⟩, r0, r1, r2, r3, r4, r5, r6, r7, r8, r9, r10⟩ := hSw; go_simp <;> with_reducible rfl)⟩) (by assumption) ?_
                try simp only [Act.put, List.setIfInBounds_toArray, List.set_cons_zero, List.set_cons_succ]
                refine wpAnyH_take (i := 15) (v := ?_) (by rw [List.getElem?_toArray]; exact rfl) (by kernel_rfl) (by kernel_rfl) (by kernel_rfl) (by exact fun _ _ _ h => h) (Or.inl ⟨by rfl, (by intro W hSw; obtain ⟨⟨q0, q1, q2, q3, q4, q5, q6, q7, q8, q9, q10⟩, r0, r1, r2, r3, r4, r5, r6, r7, r8, r9, r10⟩ := hSw; go_simp <;> with_reducible rfl)⟩) (by assumption) ?_
                try simp only [Act.put, List.setIfInBounds_toArray, List.set_cons_zero, List.set_cons_succ]
                refine wpAnyH_take (i := 16) (v := ?_) (by rw [List.getElem?_toArray]; exact rfl) (by kernel_rfl) (by kernel_rfl) (by kernel_rfl) (by exact fun _ _ _ h => h) (Or.inl ⟨by rfl, (by intro W hSw; obtain ⟨⟨q0, q1, q2, q3, q4, q5, q6, q7, q8, q9, q10⟩, r0, r1, r2, r3, r4, r5, r6, r7, r8, r9, r10⟩ := hSw; go_simp <;> with_reducible rfl)⟩) (by assumption) ?_
                try simp only [Act.put, List.setIfInBounds_toArray, List.set_cons_zero, List.set_cons_succ]
                refine wpAnyH_take (i := 17) (v := ?_) (by rw [List.getElem?_toArray]; exact rfl) (by kernel_rfl) (by kernel_rfl) (by kernel_rfl) (by exact fun _ _ _ h => h) (Or.inl ⟨by rfl, (by intro W hSw; obtain ⟨⟨q0, q1, q2, q3, q4, q5, q6, q7, q8, q9, q10⟩, r0, r1, r2, r3, r4, r5, r6, r7, r8, r9, r10⟩ := hSw; go_simp <;> with_reducible rfl)⟩) (by assumption) ?_
                try simp only [Act.put, List.setIfInBounds_toArray, List.set_cons_zero, List.set_cons_succ]
                refine wpAnyH_take (i := 18) (v := ?_) (by rw [List.getElem?_toArray]; exact rfl) (by kernel_rfl) (by kernel_rfl) (by kernel_rfl) (by exact fun _ _ _ h => h) (Or.inl ⟨by rfl, (by intro W hSw; obtain ⟨⟨q0, q1, q2, q3, q4, q5, q6, q7, q8, q9, q10⟩, r0, r1, r2, r3, r4, r5, r6, r7, r8, r9, r10⟩ := hSw; go_simp <;> with_reducible rfl)⟩) (by assumption) ?_
                try simp only [Act.put, List.setIfInBounds_toArray, List.set_cons_zero, List.set_cons_succ]
                refine wpAnyH_take (i := 19) (v := ?_) (by rw [List.getElem?_toArray]; exact rfl) (by kernel_rfl) (by kernel_rfl) (by kernel_rfl) (by exact fun _ _ _ h => h) (Or.inl ⟨by rfl, (by intro W hSw; obtain ⟨⟨q0, q1, q2, q3, q4, q5, q6, q7, q8, q9, q10⟩, r0, r1, r2, r3, r4, r5, r6, r7, r8, r9, r10⟩ := hSw; go_simp <;> with_reducible rfl)⟩) (by assumption) ?_
                try simp only [Act.put, List.setIfInBounds_toArray, List.set_cons_zero, List.set_cons_succ]
                refine wpAnyH_take (i := 21) (v := ?_) (by rw [List.getElem?_toArray]; exact rfl) (by kernel_rfl) (by kernel_rfl) (by kernel_rfl) (by exact fun _ _ _ h => h) (Or.inl ⟨by rfl, (by intro W hSw; obtain ⟨⟨q0, q1, q2, q3, q4, q5, q6, q7, q8, q9, q10⟩, r0, r1, r2, r3, r4, r5, r6, r7, r8, r9, r10⟩ := hSw; go_simp <;> with_reducible rfl)⟩) (by assumption) ?_
                try simp only [Act.put, List.setIfInBounds_toArray, List.set_cons_zero, List.set_cons_succ]
                refine wpAnyH_take (i := 22) (v := ?_) (by rw [List.getElem?_toArray]; exact rfl) (by kernel_rfl) (by kernel_rfl) (by kernel_rfl) (by exact fun _ _ _ h => h) (Or.inl ⟨by rfl, (by intro W hSw; obtain ⟨⟨q0, q1, q2, q3, q4, q5, q6, q7, q8, q9, q10⟩, r0, r1, r2, r3, r4, r5, r6, r7, r8, r9, r10⟩ := hSw; go_simp <;> with_reducible rfl)⟩) (by assumption) ?_
                try simp only [Act.put, List.setIfInBounds_toArray, List.set_cons_zero, List.set_cons_succ]
                refine wpAnyH_ready (rs := [20]) (by kernel_rfl) (by simp) (AllReadyH.cons (by rw [List.getElem?_toArray]; exact rfl) (fun K9 hK9 => ?_) AllReadyH.nil)
                go_simp
                refine (cmpPdR (RA.out _ (KN.out.trans J1.out)) (RB.out _ (KN.out.trans J1.out)) HX.out).mono ?_
                rintro e9 t2 ⟨rfl, k1⟩
                have J2 := Lib.hid (J1.out.trans k1)
                clear k1
                refine hK9.out _ _ (HS.out _ J2.out) (fun hHeld2 => ?_)
                clear hK9 K9
                try simp only [Act.put, List.setIfInBounds_toArray, List.set_cons_zero, List.set_cons_succ]
                refine wpAnyH_ready (rs := [23]) (by kernel_rfl) (by simp) (AllReadyH.cons (by rw [List.getElem?_toArray]; exact rfl) (fun K9 hK9 => ?_) AllReadyH.nil)
                go_simp
                refine (cmpPdR (RB.out _ (KN.out.trans J2.out)) (RA.out _ (KN.out.trans J2.out)) HU.out).mono ?_
                rintro e9 t3 ⟨rfl, k1⟩
                have J3 := Lib.hid (J2.out.trans k1)
                clear k1
                refine hK9.out _ _ (HS.out _ J3.out) (fun hHeld3 => ?_)
                clear hK9 K9
                try simp only [Act.put, List.setIfInBounds_toArray, List.set_cons_zero, List.set_cons_succ]
                refine wpAnyH_take (i := 24) (v := ?_) (by rw [List.getElem?_toArray]; exact rfl) (by kernel_rfl) (by kernel_rfl) (by kernel_rfl) (by exact fun _ _ _ h => h) (Or.inl ⟨by rfl, (by intro W hSw; obtain ⟨⟨q0, q1, q2, q3, q4, q5, q6, q7, q8, q9, q10⟩, r0, r1, r2, r3, r4, r5, r6, r7, r8, r9, r10⟩ := hSw; go_simp <;> with_reducible rfl)⟩) (by assumption) ?_
                try simp only [Act.put, List.setIfInBounds_toArray, List.set_cons_zero, List.set_cons_succ]
                refine wpAnyH_take (i := 25) (v := ?_) (by rw [List.getElem?_toArray]; exact rfl) (by kernel_rfl) (by kernel_rfl) (by kernel_rfl) (by exact fun _ _ _ h => h) (Or.inl ⟨by rfl, (by intro W hSw; obtain ⟨⟨q0, q1, q2, q3, q4, q5, q6, q7, q8, q9, q10⟩, r0, r1, r2, r3, r4, r5, r6, r7, r8, r9, r10⟩ := hSw; go_simp <;> with_reducible rfl)⟩) (by assumption) ?_
                try simp only [Act.put, List.setIfInBounds_toArray, List.set_cons_zero, List.set_cons_succ]
                refine wpAnyH_take (i := 26) (v := ?_) (by rw [List.getElem?_toArray]; exact rfl) (by kernel_rfl) (by kernel_rfl) (by kernel_rfl) (by exact fun _ _ _ h => h) (Or.inl ⟨by rfl, (by intro W hSw; obtain ⟨⟨q0, q1, q2, q3, q4, q5, q6, q7, q8, q9, q10⟩, r0, r1, r2, r3, r4, r5, r6, r7, r8, r9, r10⟩ := hSw; go_simp <;> with_reducible rfl)⟩) (by assumption) ?_
                try simp only [Act.put, List.setIfInBounds_toArray, List.set_cons_zero, List.set_cons_succ]
                refine wpAnyH_take (i := 27) (v := ?_) (by rw [List.getElem?_toArray]; exact rfl) (by kernel_rfl) (by kernel_rfl) (by kernel_rfl) (by exact fun _ _ _ h => h) (Or.inl ⟨by rfl, (by intro W hSw; obtain ⟨⟨q0, q1, q2, q3, q4, q5, q6, q7, q8, q9, q10⟩, r0, r1, r2, r3, r4, r5, r6, r7, r8, r9, r10⟩ := hSw; go_simp <;> with_reducible rfl)⟩) (by assumption) ?_
                try simp only [Act.put, List.setIfInBounds_toArray, List.set_cons_zero, List.set_cons_succ]
                refine wpAnyH_done (by kernel_rfl) ?_ _
                go_wp2
                go_ret
                exact ⟨rfl, HK0.out.trans (KN.out.trans J3.out)⟩
              | false =>
                obtain rfl : e1 = false := by rw [hee]; rfl
                clear hee
                refine wp_region_held_drew (S := fun W => ((W.cell? ⟨w.heap.size, 0, none⟩ = some (.string a0) ∧ W.cell? ⟨w.heap.size, 1, none⟩ = some (.string a1) ∧ W.cell? ⟨w.heap.size, 2, none⟩ = some (.int .i64 a2) ∧ W.cell? ⟨w.heap.size, 3, none⟩ = some (va1) ∧ W.cell? ⟨w.heap.size, 4, none⟩ = some (va2) ∧ W.cell? ⟨w.heap.size, 5, none⟩ = some (va3) ∧ W.cell? ⟨w.heap.size, 6, none⟩ = some (va4) ∧ W.cell? ⟨w.heap.size, 7, none⟩ = some (.string a3) ∧ W.cell? ⟨w.heap.size, 8, none⟩ = some (.int .i64 a4) ∧ W.cell? ⟨w.heap.size, 9, none⟩ = some (.string a5) ∧ W.cell? ⟨w.heap.size, 10, none⟩ = some (.bool a6)) ∧ (W.cell? ⟨(w.heap.size + 1), 0, none⟩ = some (.string b0) ∧ W.cell? ⟨(w.heap.size + 1), 1, none⟩ = some (.string b1) ∧ W.cell? ⟨(w.heap.size + 1), 2, none⟩ = some (.int .i64 b2) ∧ W.cell? ⟨(w.heap.size + 1), 3, none⟩ = some (vb1) ∧ W.cell? ⟨(w.heap.size + 1), 4, none⟩ = some (vb2) ∧ W.cell? ⟨(w.heap.size + 1), 5, none⟩ = some (vb3) ∧ W.cell? ⟨(w.heap.size + 1), 6, none⟩ = some (vb4) ∧ W.cell? ⟨(w.heap.size + 1), 7, none⟩ = some (.string b3) ∧ W.cell? ⟨(w.heap.size + 1), 8, none⟩ = some (.int .i64 b4) ∧ W.cell? ⟨(w.heap.size + 1), 9, none⟩ = some (.string b5) ∧ W.cell? ⟨(w.heap.size + 1), 10, none⟩ = some (.bool b6)))) (by kernel_rfl) (HS.out _ (Kept.drew _)) (fun hHeld => ?_)
                refine wpAnyH_take (i := 0) (v := ?_) (by rw [List.getElem?_toArray]; exact rfl) (by kernel_rfl) (by kernel_rfl) (by kernel_rfl) (by exact fun _ _ _ h => h) (Or.inl ⟨by rfl, (by intro W hSw; obtain ⟨⟨q0, q1, q2, q3, q4, q5, q6, q7, q8, q9, q10⟩, r0, r1, r2, r3, r4, r5, r6, r7, r8, r9, r10⟩ := hSw; go_simp <;> with_reducible rfl)⟩) (by assumption) ?_
                try simp only [Act.put, List.setIfInBounds_toArray, List.set_cons_zero, List.set_cons_succ]
                refine wpAnyH_take (i := 1) (v := ?_) (by rw [List.getElem?_toArray]; exact rfl) (by kernel_rfl) (by kernel_rfl) (by kernel_rfl) (by exact fun _ _ _ h => h) (Or.inl ⟨by rfl, (by intro W hSw; obtain ⟨⟨q0, q1, q2, q3, q4, q5, q6, q7, q8, q9, q10⟩, r0, r1, r2, r3, r4, r5, r6, r7, r8, r9, r10⟩ := hSw; go_simp <;> with_reducible rfl)⟩) (by assumption) ?_
                try simp only [Act.put, List.setIfInBounds_toArray, List.set_cons_zero, List.set_cons_succ]
                refine wpAnyH_take (i := 4) (v := ?_) (by rw [List.getElem?_toArray]; exact rfl) (by kernel_rfl) (by kernel_rfl) (by kernel_rfl) (by exact fun _ _ _ h => h) (Or.inl ⟨by rfl, (by intro W hSw; obtain ⟨⟨q0, q1, q2, q3, q4, q5, q6, q7, q8, q9, q10⟩, r0, r1, r2, r3, r4, r5, r6, r7, r8, r9, r10⟩ := hSw; go_simp <;> with_reducible rfl)⟩) (by assumption) ?_
                try simp only [Act.put, List.setIfInBounds_toArray, List.set_cons_zero, List.set_cons_succ]
                refine wpAnyH_take (i := 5) (v := ?_) (by rw [List.getElem?_toArray]; exact rfl) (by kernel_rfl) (by kernel_rfl) (by kernel_rfl) (by exact fun _ _ _ h => h) (Or.inl ⟨by rfl, (by intro W hSw; obtain ⟨⟨q0, q1, q2, q3, q4, q5, q6, q7, q8, q9, q10⟩, r0, r1, r2, r3, r4, r5, r6, r7, r8, r9, r10⟩ := hSw; go_simp <;> with_reducible rfl)⟩) (by assumption) ?_
                try simp only [Act.put, List.setIfInBounds_toArray, List.set_cons_zero, List.set_cons_succ]
                refine wpAnyH_take (i := 6) (v := ?_) (by rw [List.getElem?_toArray]; exact rfl) (by kernel_rfl) (by kernel_rfl) (by kernel_rfl) (by exact fun _ _ _ h => h) (Or.inl ⟨by rfl, (by intro W hSw; obtain ⟨⟨q0, q1, q2, q3, q4, q5, q6, q7, q8, q9, q10⟩, r0, r1, r2, r3, r4, r5, r6, r7, r8, r9, r10⟩ := hSw; go_simp <;> with_reducible rfl)⟩) (by assumption) ?_
                try simp only [Act.put, List.setIfInBounds_toArray, List.set_cons_zero, List.set_cons_succ]
                refine wpAnyH_take (i := 7) (v := ?_) (by rw [List.getElem?_toArray]; exact rfl) (by kernel_rfl) (by kernel_rfl) (by kernel_rfl) (by exact fun _ _ _ h => h) (Or.inl ⟨by rfl, (by intro W hSw; obtain ⟨⟨q0, q1, q2, q3, q4, q5, q6, q7, q8, q9, q10⟩, r0, r1, r2, r3, r4, r5, r6, r7, r8, r9, r10⟩ := hSw; go_simp <;> with_reducible rfl)⟩) (by assumption) ?_
                try simp only [Act.put, List.setIfInBounds_toArray, List.set_cons_zero, List.set_cons_succ]
                refine wpAnyH_take (i := 8) (v := ?_) (by rw [List.getElem?_toArray]; exact rfl) (by kernel_rfl) (by kernel_rfl) (by kernel_rfl) (by exact fun _ _ _ h => h) (Or.inl ⟨by rfl, (by intro W hSw; obtain ⟨⟨q0, q1, q2, q3, q4, q5, q6, q7, q8, q9, q10⟩, r0, r1, r2, r3, r4, r5, r6, r7, r8, r9, r10⟩ := hSw; go_simp <;> with_reducible rfl)⟩) (by assumption) ?_
                try simp only [Act.put, List.setIfInBounds_toArray, List.set_cons_zero, List.set_cons_succ]
                refine wpAnyH_ready (rs := [2]) (by kernel_rfl) (by simp) (AllReadyH.cons (by rw [List.getElem?_toArray]; exact rfl) (fun K9 hK9 => ?_) AllReadyH.nil)
                go_simp
                refine (cmpPdR (RA.out _ (KN.out.trans (Kept.drew _))) (RB.out _ (KN.out.trans (Kept.drew _))) HX.out).mono ?_
                rintro e9 t4 ⟨rfl, k1⟩
                have J1 := Lib.hid ((Kept.drew _).trans k1)
                clear k1
                refine hK9.out _ _ (HS.out _ J1.out) (fun hHeld4 => ?_)
                clear hK9 K9
                try simp only [Act.put, List.setIfInBounds_toArray, List.set_cons_zero, List.set_cons_succ]
                refine wpAnyH_take (i := 3) (v := ?_) (by rw [List.getElem?_toArray]; exact rfl) (by kernel_rfl) (by kernel_rfl) (by kernel_rfl) (by exact fun _ _ _ h => h) (Or.inl ⟨by rfl, (by intro W hSw; obtain ⟨⟨q0, q1, q2, q3, q4, q5, q6, q7, q8, q9, q10⟩, r0, r1, r2, r3, r4, r5, r6, r7, r8, r9, r10⟩ := hSw; go_simp <;> with_reducible rfl)⟩) (by assumption) ?_
                try simp only [Act.put, List.setIfInBounds_toArray, List.set_cons_zero, List.set_cons_succ]
                refine wpAnyH_take (i := 9) (v := ?_) (by rw [List.getElem?_toArray]; exact rfl) (by kernel_rfl) (by kernel_rfl) (by kernel_rfl) (by exact fun _ _ _ h => h) (Or.inl ⟨by rfl, (by intro W hSw; obtain ⟨⟨q0, q1, q2, q3, q4, q5, q6, q7, q8, q9, q10⟩, r0, r1, r2, r3, r4, r5, r6, r7, r8, r9, r10⟩ := hSw; go_simp <;> with_reducible rfl)⟩) (by assumption) ?_
                try simp only [Act.put, List.setIfInBounds_toArray, List.set_cons_zero, List.set_cons_succ]
                refine wpAnyH_take (i := 10) (v := ?_) (by rw [List.getElem?_toArray]; exact rfl) (by kernel_rfl) (by kernel_rfl) (by kernel_rfl) (by exact fun _ _ _ h => h) (Or.inl ⟨by rfl, (by intro W hSw; obtain ⟨⟨q0, q1, q2, q3, q4, q5, q6, q7, q8, q9, q10⟩, r0, r1, r2, r3, r4, r5, r6, r7, r8, r9, r10⟩ := hSw; go_simp <;> with_reducible rfl)⟩) (by assumption) ?_
                try simp only [Act.put, List.setIfInBounds_toArray, List.set_cons_zero, List.set_cons_succ]
                refine wpAnyH_take (i := 11) (v := ?_) (by rw [List.getElem?_toArray]; exact rfl) (by kernel_rfl) (by kernel_rfl) (by kernel_rfl) (by exact fun _ _ _ h => h) (Or.inl ⟨by rfl, (by intro W hSw; obtain ⟨⟨q0, q1, q2, q3, q4, q5, q6, q7, q8, q9, q10⟩, r0, r1, r2, r3, r4, r5, r6, r7, r8, r9, r10⟩ := hSw; go_simp <;> with_reducible rfl)⟩) (by assumption) ?_
                try simp only [Act.put, List.setIfInBounds_toArray, List.set_cons_zero, List.set_cons_succ]
                refine wpAnyH_take (i := 12) (v := ?_) (by rw [List.getElem?_toArray]; exact rfl) (by kernel_rfl) (by kernel_rfl) (by kernel_rfl) (by exact fun _ _ _ h => h) (Or.inl ⟨by rfl, (by intro W hSw; obtain ⟨⟨q0, q1, q2, q3, q4, q5, q6, q7, q8, q9, q10⟩, r0, r1, r2, r3, r4, r5, r6, r7, r8, r9, r10⟩ := hSw; go_simp <;> with_reducible rfl)⟩) (by assumption) ?_
                try simp only [Act.put, List.setIfInBounds_toArray, List.set_cons_zero, List.set_cons_succ]
                refine wpAnyH_take (i := 13) (v := ?_) (by rw [List.getElem?_toArray]; exact rfl) (by kernel_rfl) (by kernel_rfl) (by kernel_rfl) (by exact fun _ _ _ h => h) (Or.inl ⟨by rfl, (by intro W hSw; obtain ⟨⟨q0, q1, q2, q3, q4, q5, q6, q7, q8, q9, q10⟩, r0, r1, r2, r3, r4, r5, r6, r7, r8, r9, r10⟩ := hSw; go_simp <;> with_reducible rfl)⟩) (by assumption) ?_
                try simp only [Act.put, List.setIfInBounds_toArray, List.set_cons_zero, List.set_cons_succ]
                refine wpAnyH_take (i := 14) (v := ?_) (by rw [List.getElem?_toArray]; exact rfl) (by kernel_rfl) (by kernel_rfl) (by kernel_rfl) (by exact fun _ _ _ h => h) (Or.inl ⟨by rfl, (by intro W hSw; obtain ⟨⟨q0, q1, q2, q3, q4, q5, q6, q7, q8, q9, q10⟩, r0, r1, r2, r3, r4, r5, r6, r7, r8, r9, r10⟩ := hSw; go_simp <;> with_reducible rfl)⟩) (by assumption) ?_
                try simp only [Act.put, List.setIfInBounds_toArray, List.set_cons_zero, List.set_cons_succ]
                refine wpAnyH_take (i := 15) (v := ?_) (by rw [List.getElem?_toArray]; exact rfl) (by kernel_rfl) (by kernel_rfl) (by kernel_rfl) (by exact fun _ _ _ h => h) (Or.inl ⟨by rfl, (by intro W hSw; obtain ⟨⟨q0, q1, q2, q3, q4, q5, q6, q7, q8, q9, q10⟩, r0, r1, r2, r3, r4, r5, r6, r7, r8, r9, r10⟩ := hSw; go_simp <;> with_reducible rfl)⟩) (by assumption) ?_
                try simp only [Act.put, List.setIfInBounds_toArray, List.set_cons_zero, List.set_cons_succ]
                refine wpAnyH_take (i := 16) (v := ?_) (by rw [List.getElem?_toArray]; exact rfl) (by kernel_rfl) (by kernel_rfl) (by kernel_rfl) (by exact fun _ _ _ h => h) (Or.inl ⟨by rfl, (by intro W hSw; obtain ⟨⟨q0, q1, q2, q3, q4, q5, q6, q7, q8, q9, q10⟩, r0, r1, r2, r3, r4, r5, r6, r7, r8, r9, r10⟩ := hSw; go_simp <;> with_reducible rfl)⟩) (by assumption) ?_
                try simp only [Act.put, List.setIfInBounds_toArray, List.set_cons_zero, List.set_cons_succ]
                refine wpAnyH_take (i := 17) (v := ?_) (by rw [List.getElem?_toArray]; exact rfl) (by kernel_rfl) (by kernel_rfl) (by kernel_rfl) (by exact fun _ _ _ h => h) (Or.inl ⟨by rfl, (by intro W hSw; obtain ⟨⟨q0, q1, q2, q3, q4, q5, q6, q7, q8, q9, q10⟩, r0, r1, r2, r3, r4, r5, r6, r7, r8, r9, r10⟩ := hSw; go_simp <;> with_reducible rfl)⟩) (by assumption) ?_
                try simp only [Act.put, List.setIfInBounds_toArray, List.set_cons_zero, List.set_cons_succ]
                refine wpAnyH_take (i := 18) (v := ?_) (by rw [List.getElem?_toArray]; exact rfl) (by kernel_rfl) (by kernel_rfl) (by kernel_rfl) (by exact fun _ _ _ h => h) (Or.inl ⟨by rfl, (by intro W hSw; obtain ⟨⟨q0, q1, q2, q3, q4, q5, q6, q7, q8, q9, q10⟩, r0, r1, r2, r3, r4, r5, r6, r7, r8, r9, r10⟩ := hSw; go_simp <;> with_reducible rfl)⟩) (by assumption) ?_
                try simp only [Act.put, List.setIfInBounds_toArray, List.set_cons_zero, List.set_cons_succ]
                refine wpAnyH_take (i := 19) (v := ?_) (by rw [List.getElem?_toArray]; exact rfl) (by kernel_rfl) (by kernel_rfl) (by kernel_rfl) (by exact fun _ _ _ h => h) (Or.inl ⟨by rfl, (by intro W hSw; obtain ⟨⟨q0, q1, q2, q3, q4, q5, q6, q7, q8, q9, q10⟩, r0, r1, r2, r3, r4, r5, r6, r7, r8, r9, r10⟩ := hSw; go_simp <;> with_reducible rfl)⟩) (by assumption) ?_
                try simp only [Act.put, List.setIfInBounds_toArray, List.set_cons_zero, List.set_cons_succ]
                refine wpAnyH_take (i := 21) (v := ?_) (by rw [List.getElem?_toArray]; exact rfl) (by kernel_rfl) (by kernel_rfl) (by kernel_rfl) (by exact fun _ _ _ h => h) (Or.inl ⟨by rfl, (by intro W hSw; obtain ⟨⟨q0, q1, q2, q3, q4, q5, q6, q7, q8, q9, q10⟩, r0, r1, r2, r3, r4, r5, r6, r7, r8, r9, r10⟩ := hSw; go_simp <;> with_reducible rfl)⟩) (by assumption) ?_
                try simp only [Act.put, List.setIfInBounds_toArray, List.set_cons_zero, List.set_cons_succ]
                refine wpAnyH_take (i := 22) (v := ?_) (by rw [List.getElem?_toArray]; exact rfl) (by kernel_rfl) (by kernel_rfl) (by kernel_rfl) (by exact fun _ _ _ h => h) (Or.inl ⟨by rfl, (by intro W hSw; obtain ⟨⟨q0, q1, q2, q3, q4, q5, q6, q7, q8, q9, q10⟩, r0, r1, r2, r3, r4, r5, r6, r7, r8, r9, r10⟩ := hSw; go_simp <;> with_reducible rfl)⟩) (by assumption) ?_
                try simp only [Act.put, List.setIfInBounds_toArray, List.set_cons_zero, List.set_cons_succ]
                refine wpAnyH_ready (rs := [20]) (by kernel_rfl) (by simp) (AllReadyH.cons (by rw [List.getElem?_toArray]; exact rfl) (fun K9 hK9 => ?_) AllReadyH.nil)
                go_simp
                refine (cmpPdR (RA.out _ (KN.out.trans J1.out)) (RB.out _ (KN.out.trans J1.out)) HX.out).mono ?_
                rintro e9 t5 ⟨rfl, k1⟩
                have J2 := Lib.hid (J1.out.trans k1)
                clear k1
                refine hK9.out _ _ (HS.out _ J2.out) (fun hHeld5 => ?_)
                clear hK9 K9
                try simp only [Act.put, List.setIfInBounds_toArray, List.set_cons_zero, List.set_cons_succ]
                refine wpAnyH_ready (rs := [23]) (by kernel_rfl) (by simp) (AllReadyH.cons (by rw [List.getElem?_toArray]; exact rfl) (fun K9 hK9 => ?_) AllReadyH.nil)
                go_simp
                refine (cmpPdR (RB.out _ (KN.out.trans J2.out)) (RA.out _ (KN.out.trans J2.out)) HU.out).mono ?_
                rintro e9 t6 ⟨rfl, k1⟩
                have J3 := Lib.hid (J2.out.trans k1)
                clear k1
                refine hK9.out _ _ (HS.out _ J3.out) (fun hHeld6 => ?_)
                clear hK9 K9
                try simp only [Act.put, List.setIfInBounds_toArray, List.set_cons_zero, List.set_cons_succ]
                refine wpAnyH_take (i := 24) (v := ?_) (by rw [List.getElem?_toArray]; exact rfl) (by kernel_rfl) (by kernel_rfl) (by kernel_rfl) (by exact fun _ _ _ h => h) (Or.inl ⟨by rfl, (by intro W hSw; obtain ⟨⟨q0, q1, q2, q3, q4, q5, q6, q7, q8, q9, q10⟩, r0, r1, r2, r3, r4, r5, r6, r7, r8, r9, r10⟩ := hSw; go_simp <;> with_reducible rfl)⟩) (by assumption) ?_
                try simp only [Act.put, List.setIfInBounds_toArray, List.set_cons_zero, List.set_cons_succ]
                refine wpAnyH_take (i := 25) (v := ?_) (by rw [List.getElem?_toArray]; exact rfl) (by kernel_rfl) (by kernel_rfl) (by kernel_rfl) (by exact fun _ _ _ h => h) (Or.inl ⟨by rfl, (by intro W hSw; obtain ⟨⟨q0, q1, q2, q3, q4, q5, q6, q7, q8, q9, q10⟩, r0, r1, r2, r3, r4, r5, r6, r7, r8, r9, r10⟩ := hSw; go_simp <;> with_reducible rfl)⟩) (by assumption) ?_
                try simp only [Act.put, List.setIfInBounds_toArray, List.set_cons_zero, List.set_cons_succ]
                refine wpAnyH_take (i := 26) (v := ?_) (by rw [List.getElem?_toArray]; exact rfl) (by kernel_rfl) (by kernel_rfl) (by kernel_rfl) (by exact fun _ _ _ h => h) (Or.inl ⟨by rfl, (by intro W hSw; obtain ⟨⟨q0, q1, q2, q3, q4, q5, q6, q7, q8, q9, q10⟩, r0, r1, r2, r3, r4, r5, r6, r7, r8, r9, r10⟩ := hSw; go_simp <;> with_reducible rfl)⟩) (by assumption) ?_
                try simp only [Act.put, List.setIfInBounds_toArray, List.set_cons_zero, List.set_cons_succ]
                refine wpAnyH_take (i := 27) (v := ?_) (by rw [List.getElem?_toArray]; exact rfl) (by kernel_rfl) (by kernel_rfl) (by kernel_rfl) (by exact fun _ _ _ h => h) (Or.inl ⟨by rfl, (by intro W hSw; obtain ⟨⟨q0, q1, q2, q3, q4, q5, q6, q7, q8, q9, q10⟩, r0, r1, r2, r3, r4, r5, r6, r7, r8, r9, r10⟩ := hSw; go_simp <;> with_reducible rfl)⟩) (by assumption) ?_
                try simp only [Act.put, List.setIfInBounds_toArray, List.set_cons_zero, List.set_cons_succ]
                refine wpAnyH_done (by kernel_rfl) ?_ _
                go_wp2
                go_ret
                exact ⟨rfl, HK0.out.trans (KN.out.trans J3.out)⟩
            | false =>
              obtain rfl : e1 = false := by rw [hee]; rfl
              clear hee he3'
              refine wp_region_held_drew (S := fun W => ((W.cell? ⟨w.heap.size, 0, none⟩ = some (.string a0) ∧ W.cell? ⟨w.heap.size, 1, none⟩ = some (.string a1) ∧ W.cell? ⟨w.heap.size, 2, none⟩ = some (.int .i64 a2) ∧ W.cell? ⟨w.heap.size, 3, none⟩ = some (va1) ∧ W.cell? ⟨w.heap.size, 4, none⟩ = some (va2) ∧ W.cell? ⟨w.heap.size, 5, none⟩ = some (va3) ∧ W.cell? ⟨w.heap.size, 6, none⟩ = some (va4) ∧ W.cell? ⟨w.heap.size, 7, none⟩ = some (.string a3) ∧ W.cell? ⟨w.heap.size, 8, none⟩ = some (.int .i64 a4) ∧ W.cell? ⟨w.heap.size, 9, none⟩ = some (.string a5) ∧ W.cell? ⟨w.heap.size, 10, none⟩ = some (.bool a6)) ∧ (W.cell? ⟨(w.heap.size + 1), 0, none⟩ = some (.string b0) ∧ W.cell? ⟨(w.heap.size + 1), 1, none⟩ = some (.string b1) ∧ W.cell? ⟨(w.heap.size + 1), 2, none⟩ = some (.int .i64 b2) ∧ W.cell? ⟨(w.heap.size + 1), 3, none⟩ = some (vb1) ∧ W.cell? ⟨(w.heap.size + 1), 4, none⟩ = some (vb2) ∧ W.cell? ⟨(w.heap.size + 1), 5, none⟩ = some (vb3) ∧ W.cell? ⟨(w.heap.size + 1), 6, none⟩ = some (vb4) ∧ W.cell? ⟨(w.heap.size + 1), 7, none⟩ = some (.string b3) ∧ W.cell? ⟨(w.heap.size + 1), 8, none⟩ = some (.int .i64 b4) ∧ W.cell? ⟨(w.heap.size + 1), 9, none⟩ = some (.string b5) ∧ W.cell? ⟨(w.heap.size + 1), 10, none⟩ = some (.bool b6)))) (by kernel_rfl) (HS.out _ (Kept.drew _)) (fun hHeld => ?_)
              refine wpAnyH_take (i := 0) (v := ?_) (by rw [List.getElem?_toArray]; exact rfl) (by kernel_rfl) (by kernel_rfl) (by kernel_rfl) (by exact fun _ _ _ h => h) (Or.inl ⟨by rfl, (by intro W hSw; obtain ⟨⟨q0, q1, q2, q3, q4, q5, q6, q7, q8, q9, q10⟩, r0, r1, r2, r3, r4, r5, r6, r7, r8, r9, r10⟩ := hSw; go_simp <;> with_reducible rfl)⟩) (by assumption) ?_
              try simp only [Act.put, List.setIfInBounds_toArray, List.set_cons_zero, List.set_cons_succ]
              refine wpAnyH_take (i := 1) (v := ?_) (by rw [List.getElem?_toArray]; exact rfl) (by kernel_rfl) (by kernel_rfl) (by kernel_rfl) (by exact fun _ _ _ h => h) (Or.inl ⟨by rfl, (by intro W hSw; obtain ⟨⟨q0, q1, q2, q3, q4, q5, q6, q7, q8, q9, q10⟩, r0, r1, r2, r3, r4, r5, r6, r7, r8, r9, r10⟩ := hSw; go_simp <;> with_reducible rfl)⟩) (by assumption) ?_
              try simp only [Act.put, List.setIfInBounds_toArray, List.set_cons_zero, List.set_cons_succ]
              refine wpAnyH_take (i := 4) (v := ?_) (by rw [List.getElem?_toArray]; exact rfl) (by kernel_rfl) (by kernel_rfl) (by kernel_rfl) (by exact fun _ _ _ h => h) (Or.inl ⟨by rfl, (by intro W hSw; obtain ⟨⟨q0, q1, q2, q3, q4, q5, q6, q7, q8, q9, q10⟩, r0, r1, r2, r3, r4, r5, r6, r7, r8, r9, r10⟩ := hSw; go_simp <;> with_reducible rfl)⟩) (by assumption) ?_
              try simp only [Act.put, List.setIfInBounds_toArray, List.set_cons_zero, List.set_cons_succ]
              refine wpAnyH_take (i := 5) (v := ?_) (by rw [List.getElem?_toArray]; exact rfl) (by kernel_rfl) (by kernel_rfl) (by kernel_rfl) (by exact fun _ _ _ h => h) (Or.inl ⟨by rfl, (by intro W hSw; obtain ⟨⟨q0, q1, q2, q3, q4, q5, q6, q7, q8, q9, q10⟩, r0, r1, r2, r3, r4, r5, r6, r7, r8, r9, r10⟩ := hSw; go_simp <;> with_reducible rfl)⟩) (by assumption) ?_
              try simp only [Act.put, List.setIfInBounds_toArray, List.set_cons_zero, List.set_cons_succ]
              refine wpAnyH_take (i := 6) (v := ?_) (by rw [List.getElem?_toArray]; exact rfl) (by kernel_rfl) (by kernel_rfl) (by kernel_rfl) (by exact fun _ _ _ h => h) (Or.inl ⟨by rfl, (by intro W hSw; obtain ⟨⟨q0, q1, q2, q3, q4, q5, q6, q7, q8, q9, q10⟩, r0, r1, r2, r3, r4, r5, r6, r7, r8, r9, r10⟩ := hSw; go_simp <;> with_reducible rfl)⟩) (by assumption) ?_
              try simp only [Act.put, List.setIfInBounds_toArray, List.set_cons_zero, List.set_cons_succ]
              refine wpAnyH_take (i := 7) (v := ?_) (by rw [List.getElem?_toArray]; exact rfl) (by kernel_rfl) (by kernel_rfl) (by kernel_rfl) (by exact fun _ _ _ h => h) (Or.inl ⟨by rfl, (by intro W hSw; obtain ⟨⟨q0, q1, q2, q3, q4, q5, q6, q7, q8, q9, q10⟩, r0, r1, r2, r3, r4, r5, r6, r7, r8, r9, r10⟩ := hSw; go_simp <;> with_reducible rfl)⟩) (by assumption) ?_
              try simp only [Act.put, List.setIfInBounds_toArray, List.set_cons_zero, List.set_cons_succ]
              refine wpAnyH_take (i := 8) (v := ?_) (by rw [List.getElem?_toArray]; exact rfl) (by kernel_rfl) (by kernel_rfl) (by kernel_rfl) (by exact fun _ _ _ h => h) (Or.inl ⟨by rfl, (by intro W hSw; obtain ⟨⟨q0, q1, q2, q3, q4, q5, q6, q7, q8, q9, q10⟩, r0, r1, r2, r3, r4, r5, r6, r7, r8, r9, r10⟩ := hSw; go_simp <;> with_reducible rfl)⟩) (by assumption) ?_
              try simp only [Act.put, List.setIfInBounds_toArray, List.set_cons_zero, List.set_cons_succ]
              refine wpAnyH_ready (rs := [2]) (by kernel_rfl) (by simp) (AllReadyH.cons (by rw [List.getElem?_toArray]; exact rfl) (fun K9 hK9 => ?_) AllReadyH.nil)
              go_simp
              refine (cmpPdR (RA.out _ (KN.out.trans (Kept.drew _))) (RB.out _ (KN.out.trans (Kept.drew _))) HX.out).mono ?_
              rintro e9 t7 ⟨rfl, k1⟩
              have J1 := Lib.hid ((Kept.drew _).trans k1)
              clear k1
              refine hK9.out _ _ (HS.out _ J1.out) (fun hHeld7 => ?_)
              clear hK9 K9
              try simp only [Act.put, List.setIfInBounds_toArray, List.set_cons_zero, List.set_cons_succ]
              refine wpAnyH_take (i := 3) (v := ?_) (by rw [List.getElem?_toArray]; exact rfl) (by kernel_rfl) (by kernel_rfl) (by kernel_rfl) (by exact fun _ _ _ h => h) (Or.inl ⟨by rfl, (by intro W hSw; obtain ⟨⟨q0, q1, q2, q3, q4, q5, q6, q7, q8, q9, q10⟩, r0, r1, r2, r3, r4, r5, r6, r7, r8, r9, r10⟩ := hSw; go_simp <;> with_reducible rfl)⟩) (by assumption) ?_
              try simp only [Act.put, List.setIfInBounds_toArray, List.set_cons_zero, List.set_cons_succ]
              refine wpAnyH_take (i := 9) (v := ?_) (by rw [List.getElem?_toArray]; exact rfl) (by kernel_rfl) (by kernel_rfl) (by kernel_rfl) (by exact fun _ _ _ h => h) (Or.inl ⟨by rfl, (by intro W hSw; obtain ⟨⟨q0, q1, q2, q3, q4, q5, q6, q7, q8, q9, q10⟩, r0, r1, r2, r3, r4, r5, r6, r7, r8, r9, r10⟩ := hSw; go_simp <;> with_reducible rfl)⟩) (by assumption) ?_
              try simp only [Act.put, List.setIfInBounds_toArray, List.set_cons_zero, List.set_cons_succ]
              refine wpAnyH_take (i := 10) (v := undef) (by rw [List.getElem?_toArray]; exact rfl) (by kernel_rfl) (by kernel_rfl) (by kernel_rfl) (by exact fun _ _ _ h => h) (Or.inr ⟨by rfl, rfl⟩) (by assumption) ?_
              try simp only [Act.put, List.setIfInBounds_toArray, List.set_cons_zero, List.set_cons_succ]
              refine wpAnyH_take (i := 11) (v := undef) (by rw [List.getElem?_toArray]; exact rfl) (by kernel_rfl) (by kernel_rfl) (by kernel_rfl) (by exact fun _ _ _ h => h) (Or.inr ⟨by rfl, rfl⟩) (by assumption) ?_
              try simp only [Act.put, List.setIfInBounds_toArray, List.set_cons_zero, List.set_cons_succ]
              refine wpAnyH_take (i := 12) (v := undef) (by rw [List.getElem?_toArray]; exact rfl) (by kernel_rfl) (by kernel_rfl) (by kernel_rfl) (by exact fun _ _ _ h => h) (Or.inr ⟨by rfl, rfl⟩) (by assumption) ?_
              try simp only [Act.put, List.setIfInBounds_toArray, List.set_cons_zero, List.set_cons_succ]
              refine wpAnyH_take (i := 13) (v := undef) (by rw [List.getElem?_toArray]; exact rfl) (by kernel_rfl) (by kernel_rfl) (by kernel_rfl) (by exact fun _ _ _ h => h) (Or.inr ⟨by rfl, rfl⟩) (by assumption) ?_
              try simp only [Act.put, List.setIfInBounds_toArray, List.set_cons_zero, List.set_cons_succ]
              refine wpAnyH_take (i := 14) (v := undef) (by rw [List.getElem?_toArray]; exact rfl) (by kernel_rfl) (by kernel_rfl) (by kernel_rfl) (by exact fun _ _ _ h => h) (Or.inr ⟨by rfl, rfl⟩) (by assumption) ?_
              try simp only [Act.put, List.setIfInBounds_toArray, List.set_cons_zero, List.set_cons_succ]
              refine wpAnyH_take (i := 15) (v := ?_) (by rw [List.getElem?_toArray]; exact rfl) (by kernel_rfl) (by kernel_rfl) (by kernel_rfl) (by exact fun _ _ _ h => h) (Or.inl ⟨by rfl, (by intro W hSw; obtain ⟨⟨q0, q1, q2, q3, q4, q5, q6, q7, q8, q9, q10⟩, r0, r1, r2, r3, r4, r5, r6, r7, r8, r9, r10⟩ := hSw; go_simp <;> with_reducible rfl)⟩) (by assumption) ?_
              try simp only [Act.put, List.setIfInBounds_toArray, List.set_cons_zero, List.set_cons_succ]
              refine wpAnyH_take (i := 16) (v := ?_) (by rw [List.getElem?_toArray]; exact rfl) (by kernel_rfl) (by kernel_rfl) (by kernel_rfl) (by exact fun _ _ _ h => h) (Or.inl ⟨by rfl, (by intro W hSw; obtain ⟨⟨q0, q1, q2, q3, q4, q5, q6, q7, q8, q9, q10⟩, r0, r1, r2, r3, r4, r5, r6, r7, r8, r9, r10⟩ := hSw; go_simp <;> with_reducible rfl)⟩) (by assumption) ?_
              try simp only [Act.put, List.setIfInBounds_toArray, List.set_cons_zero, List.set_cons_succ]
              refine wpAnyH_take (i := 17) (v := ?_) (by rw [List.getElem?_toArray]; exact rfl) (by kernel_rfl) (by kernel_rfl) (by kernel_rfl) (by exact fun _ _ _ h => h) (Or.inl ⟨by rfl, (by intro W hSw; obtain ⟨⟨q0, q1, q2, q3, q4, q5, q6, q7, q8, q9, q10⟩, r0, r1, r2, r3, r4, r5, r6, r7, r8, r9, r10⟩ := hSw; go_simp <;> with_reducible rfl)⟩) (by assumption) ?_
              try simp only [Act.put, List.setIfInBounds_toArray, List.set_cons_zero, List.set_cons_succ]
              refine wpAnyH_take (i := 18) (v := ?_) (by rw [List.getElem?_toArray]; exact rfl) (by kernel_rfl) (by kernel_rfl) (by kernel_rfl) (by exact fun _ _ _ h => h) (Or.inl ⟨by rfl, (by intro W hSw; obtain ⟨⟨q0, q1, q2, q3, q4, q5, q6, q7, q8, q9, q10⟩, r0, r1, r2, r3, r4, r5, r6, r7, r8, r9, r10⟩ := hSw; go_simp <;> with_reducible rfl)⟩) (by assumption) ?_
              try simp only [Act.put, List.setIfInBounds_toArray, List.set_cons_zero, List.set_cons_succ]
              refine wpAnyH_take (i := 19) (v := ?_) (by rw [List.getElem?_toArray]; exact rfl) (by kernel_rfl) (by kernel_rfl) (by kernel_rfl) (by exact fun _ _ _ h => h) (Or.inl ⟨by rfl, (by intro W hSw; obtain ⟨⟨q0, q1, q2, q3, q4, q5, q6, q7, q8, q9, q10⟩, r0, r1, r2, r3, r4, r5, r6, r7, r8, r9, r10⟩ := hSw; go_simp <;> with_reducible rfl)⟩) (by assumption) ?_
              try simp only [Act.put, List.setIfInBounds_toArray, List.set_cons_zero, List.set_cons_succ]
              refine wpAnyH_take (i := 21) (v := ?_) (by rw [List.getElem?_toArray]; exact rfl) (by kernel_rfl) (by kernel_rfl) (by kernel_rfl) (by exact fun _ _ _ h => h) (Or.inl ⟨by rfl, (by intro W hSw; obtain ⟨⟨q0, q1, q2, q3, q4, q5, q6, q7, q8, q9, q10⟩, r0, r1, r2, r3, r4, r5, r6, r7, r8, r9, r10⟩ := hSw; go_simp <;> with_reducible rfl)⟩) (by assumption) ?_
              try simp only [Act.put, List.setIfInBounds_toArray, List.set_cons_zero, List.set_cons_succ]
              refine wpAnyH_take (i := 22) (v := ?_) (by rw [List.getElem?_toArray]; exact rfl) (by kernel_rfl) (by kernel_rfl) (by kernel_rfl) (by exact fun _ _ _ h => h) (Or.inl ⟨by rfl, (by intro W hSw; obtain ⟨⟨q0, q1, q2, q3, q4, q5, q6, q7, q8, q9, q10⟩, r0, r1, r2, r3, r4, r5, r6, r7, r8, r9, r10⟩ := hSw; go_simp <;> with_reducible rfl)⟩) (by assumption) ?_
              try simp only [Act.put, List.setIfInBounds_toArray, List.set_cons_zero, List.set_cons_succ]
              refine wpAnyH_ready (rs := [20]) (by kernel_rfl) (by simp) (AllReadyH.cons (by rw [List.getElem?_toArray]; exact rfl) (fun K9 hK9 => ?_) AllReadyH.nil)
              go_simp
              refine (cmpPdR (RA.out _ (KN.out.trans J1.out)) (RB.out _ (KN.out.trans J1.out)) HX.out).mono ?_
              rintro e9 t8 ⟨rfl, k1⟩
              have J2 := Lib.hid (J1.out.trans k1)
              clear k1
              refine hK9.out _ _ (HS.out _ J2.out) (fun hHeld8 => ?_)
              clear hK9 K9
              try simp only [Act.put, List.setIfInBounds_toArray, List.set_cons_zero, List.set_cons_succ]
              refine wpAnyH_ready (rs := [23]) (by kernel_rfl) (by simp) (AllReadyH.cons (by rw [List.getElem?_toArray]; exact rfl) (fun K9 hK9 => ?_) AllReadyH.nil)
              go_simp
              refine (cmpPdR (RB.out _ (KN.out.trans J2.out)) (RA.out _ (KN.out.trans J2.out)) HU.out).mono ?_
              rintro e9 t9 ⟨rfl, k1⟩
              have J3 := Lib.hid (J2.out.trans k1)
              clear k1
              refine hK9.out _ _ (HS.out _ J3.out) (fun hHeld9 => ?_)
              clear hK9 K9
              try simp only [Act.put, List.setIfInBounds_toArray, List.set_cons_zero, List.set_cons_succ]
              refine wpAnyH_take (i := 24) (v := ?_) (by rw [List.getElem?_toArray]; exact rfl) (by kernel_rfl) (by kernel_rfl) (by kernel_rfl) (by exact fun _ _ _ h => h) (Or.inl ⟨by rfl, (by intro W hSw; obtain ⟨⟨q0, q1, q2, q3, q4, q5, q6, q7, q8, q9, q10⟩, r0, r1, r2, r3, r4, r5, r6, r7, r8, r9, r10⟩ := hSw; go_simp <;> with_reducible rfl)⟩) (by assumption) ?_
              try simp only [Act.put, List.setIfInBounds_toArray, List.set_cons_zero, List.set_cons_succ]
              refine wpAnyH_take (i := 25) (v := ?_) (by rw [List.getElem?_toArray]; exact rfl) (by kernel_rfl) (by kernel_rfl) (by kernel_rfl) (by exact fun _ _ _ h => h) (Or.inl ⟨by rfl, (by intro W hSw; obtain ⟨⟨q0, q1, q2, q3, q4, q5, q6, q7, q8, q9, q10⟩, r0, r1, r2, r3, r4, r5, r6, r7, r8, r9, r10⟩ := hSw; go_simp <;> with_reducible rfl)⟩) (by assumption) ?_
              try simp only [Act.put, List.setIfInBounds_toArray, List.set_cons_zero, List.set_cons_succ]
              refine wpAnyH_take (i := 26) (v := ?_) (by rw [List.getElem?_toArray]; exact rfl) (by kernel_rfl) (by kernel_rfl) (by kernel_rfl) (by exact fun _ _ _ h => h) (Or.inl ⟨by rfl, (by intro W hSw; obtain ⟨⟨q0, q1, q2, q3, q4, q5, q6, q7, q8, q9, q10⟩, r0, r1, r2, r3, r4, r5, r6, r7, r8, r9, r10⟩ := hSw; go_simp <;> with_reducible rfl)⟩) (by assumption) ?_
              try simp only [Act.put, List.setIfInBounds_toArray, List.set_cons_zero, List.set_cons_succ]
              refine wpAnyH_take (i := 27) (v := ?_) (by rw [List.getElem?_toArray]; exact rfl) (by kernel_rfl) (by kernel_rfl) (by kernel_rfl) (by exact fun _ _ _ h => h) (Or.inl ⟨by rfl, (by intro W hSw; obtain ⟨⟨q0, q1, q2, q3, q4, q5, q6, q7, q8, q9, q10⟩, r0, r1, r2, r3, r4, r5, r6, r7, r8, r9, r10⟩ := hSw; go_simp <;> with_reducible rfl)⟩) (by assumption) ?_
              try simp only [Act.put, List.setIfInBounds_toArray, List.set_cons_zero, List.set_cons_succ]
              refine wpAnyH_done (by kernel_rfl) ?_ _
              go_wp2
              go_ret
              exact ⟨rfl, HK0.out.trans (KN.out.trans J3.out)⟩
          · have gy : 0 ≤ y := by omega
            go_enter Tryz.func5, Tryz.ntmps5
            have K := Lib.hid (Kept.refl W0)
            go_wp2_with fail
            try rw [hW0]
            clear hW0
            refine (HKN.out).mono ?_
            rintro e w1 ⟨rfl, k⟩
            have K := Lib.hid (K.out.trans k)
            clear k
            have C9 := CA.out _ K.out
            have ya0 := C9.at_ 0 _ rfl
            have ya1 := C9.at_ 1 _ rfl
            have ya2 := C9.at_ 2 _ rfl
            have ya3 := C9.at_ 3 _ rfl
            have ya4 := C9.at_ 4 _ rfl
            have ya5 := C9.at_ 5 _ rfl
            have ya6 := C9.at_ 6 _ rfl
            have ya7 := C9.at_ 7 _ rfl
            have ya8 := C9.at_ 8 _ rfl
            have ya9 := C9.at_ 9 _ rfl
            have ya10 := C9.at_ 10 _ rfl
            clear C9
            go_wp2_with fail
            refine (fewPdR (RA.out _ K.out) FA.out).mono ?_
            rintro e w2 ⟨rfl, k⟩
            clear ya0 ya1 ya2 ya3 ya4 ya5 ya6 ya7 ya8 ya9 ya10
            have K := Lib.hid (K.out.trans k)
            clear k
            have C9 := CB.out _ K.out
            have yb0 := C9.at_ 0 _ rfl
            have yb1 := C9.at_ 1 _ rfl
            have yb2 := C9.at_ 2 _ rfl
            have yb3 := C9.at_ 3 _ rfl
            have yb4 := C9.at_ 4 _ rfl
            have yb5 := C9.at_ 5 _ rfl
            have yb6 := C9.at_ 6 _ rfl
            have yb7 := C9.at_ 7 _ rfl
            have yb8 := C9.at_ 8 _ rfl
            have yb9 := C9.at_ 9 _ rfl
            have yb10 := C9.at_ 10 _ rfl
            clear C9
            go_wp2_with fail
            refine (fewPdR (RB.out _ K.out) FB.out).mono ?_
            rintro e w3 ⟨rfl, k⟩
            clear yb0 yb1 yb2 yb3 yb4 yb5 yb6 yb7 yb8 yb9 yb10
            have K := Lib.hid (K.out.trans k)
            clear k
            have C9 := CC.out _ K.out
            have yc0 := C9.at_ 0 _ rfl
            have yc1 := C9.at_ 1 _ rfl
            have yc2 := C9.at_ 2 _ rfl
            have yc3 := C9.at_ 3 _ rfl
            have yc4 := C9.at_ 4 _ rfl
            have yc5 := C9.at_ 5 _ rfl
            have yc6 := C9.at_ 6 _ rfl
            have yc7 := C9.at_ 7 _ rfl
            have yc8 := C9.at_ 8 _ rfl
            have yc9 := C9.at_ 9 _ rfl
            have yc10 := C9.at_ 10 _ rfl
            clear C9
            go_wp2_with fail
            refine (fewPdR (RC.out _ K.out) FC.out).mono ?_
            rintro e w4 ⟨rfl, k⟩
            clear yc0 yc1 yc2 yc3 yc4 yc5 yc6 yc7 yc8 yc9 yc10
            have K := Lib.hid (K.out.trans k)
            clear k
            have C9 := CA.out _ K.out
            have ya0 := C9.at_ 0 _ rfl
            have ya1 := C9.at_ 1 _ rfl
            have ya2 := C9.at_ 2 _ rfl
            have ya3 := C9.at_ 3 _ rfl
            have ya4 := C9.at_ 4 _ rfl
            have ya5 := C9.at_ 5 _ rfl
            have ya6 := C9.at_ 6 _ rfl
            have ya7 := C9.at_ 7 _ rfl
            have ya8 := C9.at_ 8 _ rfl
            have ya9 := C9.at_ 9 _ rfl
            have ya10 := C9.at_ 10 _ rfl
            clear C9
            have C9 := CB.out _ K.out
            have yb0 := C9.at_ 0 _ rfl
            have yb1 := C9.at_ 1 _ rfl
            have yb2 := C9.at_ 2 _ rfl
            have yb3 := C9.at_ 3 _ rfl
            have yb4 := C9.at_ 4 _ rfl
            have yb5 := C9.at_ 5 _ rfl
            have yb6 := C9.at_ 6 _ rfl
            have yb7 := C9.at_ 7 _ rfl
            have yb8 := C9.at_ 8 _ rfl
            have yb9 := C9.at_ 9 _ rfl
            have yb10 := C9.at_ 10 _ rfl
            clear C9
            go_wp2_with fail
            refine (cmpPdR (RA.out _ K.out) (RB.out _ K.out) HX.out).mono ?_
            rintro e w5 ⟨rfl, k⟩
            clear ya0 ya1 ya2 ya3 ya4 ya5 ya6 ya7 ya8 ya9 ya10 yb0 yb1 yb2 yb3 yb4 yb5 yb6 yb7 yb8 yb9 yb10
            have K := Lib.hid (K.out.trans k)
            clear k
            have C9 := CB.out _ K.out
            have yb0 := C9.at_ 0 _ rfl
            have yb1 := C9.at_ 1 _ rfl
            have yb2 := C9.at_ 2 _ rfl
            have yb3 := C9.at_ 3 _ rfl
            have yb4 := C9.at_ 4 _ rfl
            have yb5 := C9.at_ 5 _ rfl
            have yb6 := C9.at_ 6 _ rfl
            have yb7 := C9.at_ 7 _ rfl
            have yb8 := C9.at_ 8 _ rfl
            have yb9 := C9.at_ 9 _ rfl
            have yb10 := C9.at_ 10 _ rfl
            clear C9
            have C9 := CC.out _ K.out
            have yc0 := C9.at_ 0 _ rfl
            have yc1 := C9.at_ 1 _ rfl
            have yc2 := C9.at_ 2 _ rfl
            have yc3 := C9.at_ 3 _ rfl
            have yc4 := C9.at_ 4 _ rfl
            have yc5 := C9.at_ 5 _ rfl
            have yc6 := C9.at_ 6 _ rfl
            have yc7 := C9.at_ 7 _ rfl
            have yc8 := C9.at_ 8 _ rfl
            have yc9 := C9.at_ 9 _ rfl
            have yc10 := C9.at_ 10 _ rfl
            clear C9
            go_wp2_with fail
            refine (cmpPdR (RB.out _ K.out) (RC.out _ K.out) HY.out).mono ?_
            rintro e w6 ⟨rfl, k⟩
            clear yb0 yb1 yb2 yb3 yb4 yb5 yb6 yb7 yb8 yb9 yb10 yc0 yc1 yc2 yc3 yc4 yc5 yc6 yc7 yc8 yc9 yc10
            have K := Lib.hid (K.out.trans k)
            clear k
            go_wp2
            have HS := Lib.hid (show ∀ W, Kept w6 W → ((W.cell? ⟨w.heap.size, 0, none⟩ = some (.string a0) ∧ W.cell? ⟨w.heap.size, 1, none⟩ = some (.string a1) ∧ W.cell? ⟨w.heap.size, 2, none⟩ = some (.int .i64 a2) ∧ W.cell? ⟨w.heap.size, 3, none⟩ = some (va1) ∧ W.cell? ⟨w.heap.size, 4, none⟩ = some (va2) ∧ W.cell? ⟨w.heap.size, 5, none⟩ = some (va3) ∧ W.cell? ⟨w.heap.size, 6, none⟩ = some (va4) ∧ W.cell? ⟨w.heap.size, 7, none⟩ = some (.string a3) ∧ W.cell? ⟨w.heap.size, 8, none⟩ = some (.int .i64 a4) ∧ W.cell? ⟨w.heap.size, 9, none⟩ = some (.string a5) ∧ W.cell? ⟨w.heap.size, 10, none⟩ = some (.bool a6)) ∧ (W.cell? ⟨(w.heap.size + 1), 0, none⟩ = some (.string b0) ∧ W.cell? ⟨(w.heap.size + 1), 1, none⟩ = some (.string b1) ∧ W.cell? ⟨(w.heap.size + 1), 2, none⟩ = some (.int .i64 b2) ∧ W.cell? ⟨(w.heap.size + 1), 3, none⟩ = some (vb1) ∧ W.cell? ⟨(w.heap.size + 1), 4, none⟩ = some (vb2) ∧ W.cell? ⟨(w.heap.size + 1), 5, none⟩ = some (vb3) ∧ W.cell? ⟨(w.heap.size + 1), 6, none⟩ = some (vb4) ∧ W.cell? ⟨(w.heap.size + 1), 7, none⟩ = some (.string b3) ∧ W.cell? ⟨(w.heap.size + 1), 8, none⟩ = some (.int .i64 b4) ∧ W.cell? ⟨(w.heap.size + 1), 9, none⟩ = some (.string b5) ∧ W.cell? ⟨(w.heap.size + 1), 10, none⟩ = some (.bool b6))) from fun W k => by
              have h := CA.out W (K.out.trans k)
              have g := CB.out W (K.out.trans k)
              exact ⟨⟨h.at_ 0 _ rfl, h.at_ 1 _ rfl, h.at_ 2 _ rfl, h.at_ 3 _ rfl, h.at_ 4 _ rfl, h.at_ 5 _ rfl, h.at_ 6 _ rfl, h.at_ 7 _ rfl, h.at_ 8 _ rfl, h.at_ 9 _ rfl, h.at_ 10 _ rfl⟩, ⟨g.at_ 0 _ rfl, g.at_ 1 _ rfl, g.at_ 2 _ rfl, g.at_ 3 _ rfl, g.at_ 4 _ rfl, g.at_ 5 _ rfl, g.at_ 6 _ rfl, g.at_ 7 _ rfl, g.at_ 8 _ rfl, g.at_ 9 _ rfl, g.at_ 10 _ rfl⟩⟩)
            have KN := Lib.hid (show Kept W0 w6 from K.out)
            cases e2 with
            | true =>
              cases e3 with
              | true =>
                obtain rfl : e1 = true := by rw [hee]; rfl
                clear hee
                refine wp_region_held_drew (S := fun W => ((W.cell? ⟨w.heap.size, 0, none⟩ = some (.string a0) ∧ W.cell? ⟨w.heap.size, 1, none⟩ = some (.string a1) ∧ W.cell? ⟨w.heap.size, 2, none⟩ = some (.int .i64 a2) ∧ W.cell? ⟨w.heap.size, 3, none⟩ = some (va1) ∧ W.cell? ⟨w.heap.size, 4, none⟩ = some (va2) ∧ W.cell? ⟨w.heap.size, 5, none⟩ = some (va3) ∧ W.cell? ⟨w.heap.size, 6, none⟩ = some (va4) ∧ W.cell? ⟨w.heap.size, 7, none⟩ = some (.string a3) ∧ W.cell? ⟨w.heap.size, 8, none⟩ = some (.int .i64 a4) ∧ W.cell? ⟨w.heap.size, 9, none⟩ = some (.string a5) ∧ W.cell? ⟨w.heap.size, 10, none⟩ = some (.bool a6)) ∧ (W.cell? ⟨(w.heap.size + 1), 0, none⟩ = some (.string b0) ∧ W.cell? ⟨(w.heap.size + 1), 1, none⟩ = some (.string b1) ∧ W.cell? ⟨(w.heap.size + 1), 2, none⟩ = some (.int .i64 b2) ∧ W.cell? ⟨(w.heap.size + 1), 3, none⟩ = some (vb1) ∧ W.cell? ⟨(w.heap.size + 1), 4, none⟩ = some (vb2) ∧ W.cell? ⟨(w.heap.size + 1), 5, none⟩ = some (vb3) ∧ W.cell? ⟨(w.heap.size + 1), 6, none⟩ = some (vb4) ∧ W.cell? ⟨(w.heap.size + 1), 7, none⟩ = some (.string b3) ∧ W.cell? ⟨(w.heap.size + 1), 8, none⟩ = some (.int .i64 b4) ∧ W.cell? ⟨(w.heap.size + 1), 9, none⟩ = some (.string b5) ∧ W.cell? ⟨(w.heap.size + 1), 10, none⟩ = some (.bool b6)))) (by kernel_rfl) (HS.out _ (Kept.drew _)) (fun hHeld => ?_)
                refine wpAnyH_take (i := 0) (v := ?_) (by rw [List.getElem?_toArray]; exact rfl) (by kernel_rfl) (by kernel_rfl) (by kernel_rfl) (by exact fun _ _ _ h => h) (Or.inl ⟨by rfl, (by intro W hSw; obtain ⟨⟨q0, q1, q2, q3, q4, q5, q6, q7, q8, q9, q10⟩, r0, r1, r2, r3, r4, r5, r6, r7, r8, r9, r10⟩ := hSw; go_simp <;> with_reducible rfl)⟩) (by assumption) ?_
                try simp only [Act.put, List.setIfInBounds_toArray, List.set_cons_zero, List.set_cons_succ]
                refine wpAnyH_take (i := 1) (v := ?_) (by rw [List.getElem?_toArray]; exact rfl) (by kernel_rfl) (by kernel_rfl) (by kernel_rfl) (by exact fun _ _ _ h => h) (Or.inl ⟨by rfl, (by intro W hSw; obtain ⟨⟨q0, q1, q2, q3, q4, q5, q6, q7, q8, q9, q10⟩, r0, r1, r2, r3, r4, r5, r6, r7, r8, r9, r10⟩ := hSw; go_simp <;> with_reducible rfl)⟩) (by assumption) ?_
                try simp only [Act.put, List.setIfInBounds_toArray, List.set_cons_zero, List.set_cons_succ]
                refine wpAnyH_take (i := 4) (v := ?_) (by rw [List.getElem?_toArray]; exact rfl) (by kernel_rfl) (by kernel_rfl) (by kernel_rfl) (by exact fun _ _ _ h => h) (Or.inl ⟨by rfl, (by intro W hSw; obtain ⟨⟨q0, q1, q2, q3, q4, q5, q6, q7, q8, q9, q10⟩, r0, r1, r2, r3, r4, r5, r6, r7, r8, r9, r10⟩ := hSw; go_simp <;> with_reducible rfl)⟩) (by assumption) ?_
                try simp only [Act.put, List.setIfInBounds_toArray, List.set_cons_zero, List.set_cons_succ]
                refine wpAnyH_take (i := 5) (v := ?_) (by rw [List.getElem?_toArray]; exact rfl) (by kernel_rfl) (by kernel_rfl) (by kernel_rfl) (by exact fun _ _ _ h => h) (Or.inl ⟨by rfl, (by intro W hSw; obtain ⟨⟨q0, q1, q2, q3, q4, q5, q6, q7, q8, q9, q10⟩, r0, r1, r2, r3, r4, r5, r6, r7, r8, r9, r10⟩ := hSw; go_simp <;> with_reducible rfl)⟩) (by assumption) ?_
                try simp only [Act.put, List.setIfInBounds_toArray, List.set_cons_zero, List.set_cons_succ]
                refine wpAnyH_take (i := 6) (v := ?_) (by rw [List.getElem?_toArray]; exact rfl) (by kernel_rfl) (by kernel_rfl) (by kernel_rfl) (by exact fun _ _ _ h => h) (Or.inl ⟨by rfl, (by intro W hSw; obtain ⟨⟨q0, q1, q2, q3, q4, q5, q6, q7, q8, q9, q10⟩, r0, r1, r2, r3, r4, r5, r6, r7, r8, r9, r10⟩ := hSw; go_simp <;> with_reducible rfl)⟩) (by assumption) ?_
                try simp only [Act.put, List.setIfInBounds_toArray, List.set_cons_zero, List.set_cons_succ]
                refine wpAnyH_take (i := 7) (v := ?_) (by rw [List.getElem?_toArray]; exact rfl) (by kernel_rfl) (by kernel_rfl) (by kernel_rfl) (by exact fun _ _ _ h => h) (Or.inl ⟨by rfl, (by intro W hSw; obtain ⟨⟨q0, q1, q2, q3, q4, q5, q6, q7, q8, q9, q10⟩, r0, r1, r2, r3, r4, r5, r6, r7, r8, r9, r10⟩ := hSw; go_simp <;> with_reducible rfl)⟩) (by assumption) ?_
                try simp only [Act.put, List.setIfInBounds_toArray, List.set_cons_zero, List.set_cons_succ]
                refine wpAnyH_take (i := 8) (v := ?_) (by rw [List.getElem?_toArray]; exact rfl) (by kernel_rfl) (by kernel_rfl) (by kernel_rfl) (by exact fun _ _ _ h => h) (Or.inl ⟨by rfl, (by intro W hSw; obtain ⟨⟨q0, q1, q2, q3, q4, q5, q6, q7, q8, q9, q10⟩, r0, r1, r2, r3, r4, r5, r6, r7, r8, r9, r10⟩ := hSw; go_simp <;> with_reducible rfl)⟩) (by assumption) ?_
                try simp only [Act.put, List.setIfInBounds_toArray, List.set_cons_zero, List.set_cons_succ]
                refine wpAnyH_ready (rs := [2]) (by kernel_rfl) (by simp) (AllReadyH.cons (by rw [List.getElem?_toArray]; exact rfl) (fun K9 hK9 => ?_) AllReadyH.nil)
                go_simp
                refine (cmpPdR (RA.out _ (KN.out.trans (Kept.drew _))) (RB.out _ (KN.out.trans (Kept.drew _))) HX.out).mono ?_
                rintro e9 t1 ⟨rfl, k1⟩
                have J1 := Lib.hid ((Kept.drew _).trans k1)
                clear k1
                refine hK9.out _ _ (HS.out _ J1.out) (fun hHeld1 => ?_)
                clear hK9 K9
                try simp only [Act.put, List.setIfInBounds_toArray, List.set_cons_zero, List.set_cons_succ]
                refine wpAnyH_take (i := 3) (v := ?_) (by rw [List.getElem?_toArray]; exact rfl) (by kernel_rfl) (by kernel_rfl) (by kernel_rfl) (by exact fun _ _ _ h => h) (Or.inl ⟨by rfl, (by intro W hSw; obtain ⟨⟨q0, q1, q2, q3, q4, q5, q6, q7, q8, q9, q10⟩, r0, r1, r2, r3, r4, r5, r6, r7, r8, r9, r10⟩ := hSw; go_simp <;> with_reducible rfl)⟩) (by assumption) ?_
                try simp only [Act.put, List.setIfInBounds_toArray, List.set_cons_zero, List.set_cons_succ]
                refine wpAnyH_take (i := 9) (v := ?_) (by rw [List.getElem?_toArray]; exact rfl) (by kernel_rfl) (by kernel_rfl) (by kernel_rfl) (by exact fun _ _ _ h => h) (Or.inl ⟨by rfl, (by intro W hSw; obtain ⟨⟨q0, q1, q2, q3, q4, q5, q6, q7, q8, q9, q10⟩, r0, r1, r2, r3, r4, r5, r6, r7, r8, r9, r10⟩ := hSw; go_simp <;> with_reducible rfl)⟩) (by assumption) ?_
                try simp only [Act.put, List.setIfInBounds_toArray, List.set_cons_zero, List.set_cons_succ]
                refine wpAnyH_take (i := 10) (v := ?_) (by rw [List.getElem?_toArray]; exact rfl) (by kernel_rfl) (by kernel_rfl) (by kernel_rfl) (by exact fun _ _ _ h => h) (Or.inl ⟨by rfl, (by intro W hSw; obtain ⟨⟨q0, q1, q2, q3, q4, q5, q6, q7, q8, q9, q10⟩, r0, r1, r2, r3, r4, r5, r6, r7, r8, r9, r10⟩ := hSw; go_simp <;> with_reducible rfl)⟩) (by assumption) ?_
                try simp only [Act.put, List.setIfInBounds_toArray, List.set_cons_zero, List.set_cons_succ]
                refine wpAnyH_take (i := 11) (v := ?_) (by rw [List.getElem?_toArray]; exact rfl) (by kernel_rfl) (by kernel_rfl) (by kernel_rfl) (by exact fun _ _ _ h => h) (Or.inl ⟨by rfl, (by intro W hSw; obtain ⟨⟨q0, q1, q2, q3, q4, q5, q6, q7, q8, q9, q10⟩, r0, r1, r2, r3, r4, r5, r6, r7, r8, r9, r10⟩ := hSw; go_simp <;> with_reducible rfl)⟩) (by assumption) ?_
                try simp only [Act.put, List.setIfInBounds_toArray, List.set_cons_zero, List.set_cons_succ]
                refine wpAnyH_take (i := 12) (v := ?_) (by rw [List.getElem?_toArray]; exact rfl) (by kernel_rfl) (by kernel_rfl) (by kernel_rfl) (by exact fun _ _ _ h => h) (Or.inl ⟨by rfl, (by intro W hSw; obtain ⟨⟨q0, q1, q2, q3, q4, q5, q6, q7, q8, q9, q10⟩, r0, r1, r2, r3, r4, r5, r6, r7, r8, r9, r10⟩ := hSw; go_simp <;> with_reducible rfl)⟩) (by assumption) ?_
                try simp only [Act.put, List.setIfInBounds_toArray, List.set_cons_zero, List.set_cons_succ]
                refine wpAnyH_take (i := 13) (v := ?_) (by rw [List.getElem?_toArray]; exact rfl) (by kernel_rfl) (by kernel_rfl) (by kernel_rfl) (by exact fun _ _ _ h => h) (Or.inl ⟨by rfl, (by intro W hSw; obtain ⟨⟨q0, q1, q2, q3, q4, q5, q6, q7, q8, q9, q10⟩, r0, r1, r2, r3, r4, r5, r6, r7, r8, r9, r10⟩ := hSw; go_simp <;> with_reducible rfl)⟩) (by assumption) ?_
                try simp only [Act.put, List.setIfInBounds_toArray, List.set_cons_zero, List.set_cons_succ]
                refine wpAnyH_take (i := 14) (v := ?_) (by rw [List.getElem?_toArray]; exact rfl) (by kernel_rfl) (by kernel_rfl) (by kernel_rfl) (by exact fun _ _ _ h => h) (Or.inl ⟨by rfl, (by intro W hSw; obtain ⟨⟨q0, q1, q2, q3, q4, q5, q6, q7, q8, q9, q10⟩, r0, r1, r2, r3, r4, r5, r6, r7, r8, r9, r10⟩ := hSw; go_simp <;> with_reducible rfl)⟩) (by assumption) ?_
                try simp only [Act.put, List.setIfInBounds_toArray, List.set_cons_zero, List.set_cons_succ]
                refine wpAnyH_take (i := 15) (v := ?_) (by rw [List.getElem?_toArray]; exact rfl) (by kernel_rfl) (by kernel_rfl) (by kernel_rfl) (by exact fun _ _ _ h => h) (Or.inl ⟨by rfl, (by intro W hSw; obtain ⟨⟨q0, q1, q2, q3, q4, q5, q6, q7, q8, q9, q10⟩, r0, r1, r2, r3, r4, r5, r6, r7, r8, r9, r10⟩ := hSw; go_simp <;> with_reducible rfl)⟩) (by assumption) ?_
                try simp only [Act.put, List.setIfInBounds_toArray, List.set_cons_zero, List.set_cons_succ]
                refine wpAnyH_take (i := 16) (v := ?_) (by rw [List.getElem?_toArray]; exact rfl) (by kernel_rfl) (by kernel_rfl) (by kernel_rfl) (by exact fun _ _ _ h => h) (Or.inl ⟨by rfl, (by intro W hSw; obtain ⟨⟨q0, q1, q2, q3, q4, q5, q6, q7, q8, q9, q10⟩, r0, r1, r2, r3, r4, r5, r6, r7, r8, r9, r10⟩ := hSw; go_simp <;> with_reducible rfl)⟩) (by assumption) ?_
                try simp only [Act.put, List.setIfInBounds_toArray, List.set_cons_zero, List.set_cons_succ]
                refine wpAnyH_take (i := 17) (v := ?_) (by rw [List.getElem?_toArray]; exact rfl) (by kernel_rfl) (by kernel_rfl) (by kernel_rfl) (by exact fun _ _ _ h => h) (Or.inl ⟨by rfl, (by intro W hSw; obtain ⟨⟨q0, q1, q2, q3, q4, q5, q6, q7, q8, q9, q10⟩, r0, r1, r2, r3, r4, r5, r6, r7, r8, r9, r10⟩ := hSw; go_simp <;> with_reducible rfl)⟩) (by assumption) ?_
                try simp only [Act.put, List.setIfInBounds_toArray, List.set_cons_zero, List.set_cons_succ]
                refine wpAnyH_take (i := 18) (v := ?_) (by rw [List.getElem?_toArray]; exact rfl) (by kernel_rfl) (by kernel_rfl) (by kernel_rfl) (by exact fun _ _ _ h => h) (Or.inl ⟨by rfl, (by intro W hSw; obtain ⟨⟨q0, q1, q2, q3, q4, q5, q6, q7, q8, q9, q10⟩, r0, r1, r2, r3, r4, r5, r6, r7, r8, r9, r10⟩ := hSw; go_simp <;> with_reducible rfl)⟩) (by assumption) ?_
                try simp only [Act.put, List.setIfInBounds_toArray, List.set_cons_zero, List.set_cons_succ]
                refine wpAnyH_take (i := 19) (v := ?_) (by rw [List.getElem?_toArray]; exact rfl) (by kernel_rfl) (by kernel_rfl) (by kernel_rfl) (by exact fun _ _ _ h => h) (Or.inl ⟨by rfl, (by intro W hSw; obtain ⟨⟨q0, q1, q2, q3, q4, q5, q6, q7, q8, q9, q10⟩, r0, r1, r2, r3, r4, r5, r6, r7, r8, r9, r10⟩ := hSw; go_simp <;> with_reducible rfl)⟩) (by assumption) ?_
                try simp only [Act.put, List.setIfInBounds_toArray, List.set_cons_zero, List.set_cons_succ]
                refine wpAnyH_take (i := 21) (v := ?_) (by rw [List.getElem?_toArray]; exact rfl) (by kernel_rfl) (by kernel_rfl) (by kernel_rfl) (by exact fun _ _ _ h => h) (Or.inl ⟨by rfl, (by intro W hSw; obtain ⟨⟨q0, q1, q2, q3, q4, q5, q6, q7, q8, q9, q10⟩, r0, r1, r2, r3, r4, r5, r6, r7, r8, r9, r10⟩ := hSw; go_simp <;> with_reducible rfl)⟩) (by assumption) ?_
                try simp only [Act.put, List.setIfInBounds_toArray, List.set_cons_zero, List.set_cons_succ]
                refine wpAnyH_take (i := 22) (v := ?_) (by rw [List.getElem?_toArray]; exact rfl) (by kernel_rfl) (by kernel_rfl) (by kernel_rfl) (by exact fun _ _ _ h => h) (Or.inl ⟨by rfl, (by intro W hSw; obtain ⟨⟨q0, q1, q2, q3, q4, q5, q6, q7, q8, q9, q10⟩, r0, r1, r2, r3, r4, r5, r6, r7, r8, r9, r10⟩ := hSw; go_simp <;> with_reducible rfl)⟩) (by assumption) ?_
                try simp only [Act.put, List.setIfInBounds_toArray, List.set_cons_zero, List.set_cons_succ]
                refine wpAnyH_ready (rs := [20]) (by kernel_rfl) (by simp) (AllReadyH.cons (by rw [List.getElem?_toArray]; exact rfl) (fun K9 hK9 => ?_) AllReadyH.nil)
                go_simp
                refine (cmpPdR (RA.out _ (KN.out.trans J1.out)) (RB.out _ (KN.out.trans J1.out)) HX.out).mono ?_
                rintro e9 t2 ⟨rfl, k1⟩
                have J2 := Lib.hid (J1.out.trans k1)
                clear k1
                refine hK9.out _ _ (HS.out _ J2.out) (fun hHeld2 => ?_)
                clear hK9 K9
                try simp only [Act.put, List.setIfInBounds_toArray, List.set_cons_zero, List.set_cons_succ]
                refine wpAnyH_ready (rs := [23]) (by kernel_rfl) (by simp) (AllReadyH.cons (by rw [List.getElem?_toArray]; exact rfl) (fun K9 hK9 => ?_) AllReadyH.nil)
                go_simp
                refine (cmpPdR (RB.out _ (KN.out.trans J2.out)) (RA.out _ (KN.out.trans J2.out)) HU.out).mono ?_
                rintro e9 t3 ⟨rfl, k1⟩
                have J3 := Lib.hid (J2.out.trans k1)
                clear k1
                refine hK9.out _ _ (HS.out _ J3.out) (fun hHeld3 => ?_)
                clear hK9 K9
                try simp only [Act.put, List.setIfInBounds_toArray, List.set_cons_zero, List.set_cons_succ]
                refine wpAnyH_take (i := 24) (v := ?_) (by rw [List.getElem?_toArray]; exact rfl) (by kernel_rfl) (by kernel_rfl) (by kernel_rfl) (by exact fun _ _ _ h => h) (Or.inl ⟨by rfl, (by intro W hSw; obtain ⟨⟨q0, q1, q2, q3, q4, q5, q6, q7, q8, q9, q10⟩, r0, r1, r2, r3, r4, r5, r6, r7, r8, r9, r10⟩ := hSw; go_simp <;> with_reducible rfl)⟩) (by assumption) ?_
                try simp only [Act.put, List.setIfInBounds_toArray, List.set_cons_zero, List.set_cons_succ]
                refine wpAnyH_take (i := 25) (v := ?_) (by rw [List.getElem?_toArray]; exact rfl) (by kernel_rfl) (by kernel_rfl) (by kernel_rfl) (by exact fun _ _ _ h => h) (Or.inl ⟨by rfl, (by intro W hSw; obtain ⟨⟨q0, q1, q2, q3, q4, q5, q6, q7, q8, q9, q10⟩, r0, r1, r2, r3, r4, r5, r6, r7, r8, r9, r10⟩ := hSw; go_simp <;> with_reducible rfl)⟩) (by assumption) ?_
                try simp only [Act.put, List.setIfInBounds_toArray, List.set_cons_zero, List.set_cons_succ]
                refine wpAnyH_take (i := 26) (v := ?_) (by rw [List.getElem?_toArray]; exact rfl) (by kernel_rfl) (by kernel_rfl) (by kernel_rfl) (by exact fun _ _ _ h => h) (Or.inl ⟨by rfl, (by intro W hSw; obtain ⟨⟨q0, q1, q2, q3, q4, q5, q6, q7, q8, q9, q10⟩, r0, r1, r2, r3, r4, r5, r6, r7, r8, r9, r10⟩ := hSw; go_simp <;> with_reducible rfl)⟩) (by assumption) ?_
                try simp only [Act.put, List.setIfInBounds_toArray, List.set_cons_zero, List.set_cons_succ]
                refine wpAnyH_take (i := 27) (v := ?_) (by rw [List.getElem?_toArray]; exact rfl) (by kernel_rfl) (by kernel_rfl) (by kernel_rfl) (by exact fun _ _ _ h => h) (Or.inl ⟨by rfl, (by intro W hSw; obtain ⟨⟨q0, q1, q2, q3, q4, q5, q6, q7, q8, q9, q10⟩, r0, r1, r2, r3, r4, r5, r6, r7, r8, r9, r10⟩ := hSw; go_simp <;> with_reducible rfl)⟩) (by assumption) ?_
                try simp only [Act.put, List.setIfInBounds_toArray, List.set_cons_zero, List.set_cons_succ]
                refine wpAnyH_done (by kernel_rfl) ?_ _
                go_wp2
                go_ret
                exact ⟨rfl, HK0.out.trans (KN.out.trans J3.out)⟩
              | false =>
                obtain rfl : e1 = false := by rw [hee]; rfl
                clear hee
                refine wp_region_held_drew (S := fun W => ((W.cell? ⟨w.heap.size, 0, none⟩ = some (.string a0) ∧ W.cell? ⟨w.heap.size, 1, none⟩ = some (.string a1) ∧ W.cell? ⟨w.heap.size, 2, none⟩ = some (.int .i64 a2) ∧ W.cell? ⟨w.heap.size, 3, none⟩ = some (va1) ∧ W.cell? ⟨w.heap.size, 4, none⟩ = some (va2) ∧ W.cell? ⟨w.heap.size, 5, none⟩ = some (va3) ∧ W.cell? ⟨w.heap.size, 6, none⟩ = some (va4) ∧ W.cell? ⟨w.heap.size, 7, none⟩ = some (.string a3) ∧ W.cell? ⟨w.heap.size, 8, none⟩ = some (.int .i64 a4) ∧ W.cell? ⟨w.heap.size, 9, none⟩ = some (.string a5) ∧ W.cell? ⟨w.heap.size, 10, none⟩ = some (.bool a6)) ∧ (W.cell? ⟨(w.heap.size + 1), 0, none⟩ = some (.string b0) ∧ W.cell? ⟨(w.heap.size + 1), 1, none⟩ = some (.string b1) ∧ W.cell? ⟨(w.heap.size + 1), 2, none⟩ = some (.int .i64 b2) ∧ W.cell? ⟨(w.heap.size + 1), 3, none⟩ = some (vb1) ∧ W.cell? ⟨(w.heap.size + 1), 4, none⟩ = some (vb2) ∧ W.cell? ⟨(w.heap.size + 1), 5, none⟩ = some (vb3) ∧ W.cell? ⟨(w.heap.size + 1), 6, none⟩ = some (vb4) ∧ W.cell? ⟨(w.heap.size + 1), 7, none⟩ = some (.string b3) ∧ W.cell? ⟨(w.heap.size + 1), 8, none⟩ = some (.int .i64 b4) ∧ W.cell? ⟨(w.heap.size + 1), 9, none⟩ = some (.string b5) ∧ W.cell? ⟨(w.heap.size + 1), 10, none⟩ = some (.bool b6)))) (by kernel_rfl) (HS.out _ (Kept.drew _)) (fun hHeld => ?_)
                refine wpAnyH_take (i := 0) (v := ?_) (by rw [List.getElem?_toArray]; exact rfl) (by kernel_rfl) (by kernel_rfl) (by kernel_rfl) (by exact fun _ _ _ h => h) (Or.inl ⟨by rfl, (by intro W hSw; obtain ⟨⟨q0, q1, q2, q3, q4, q5, q6, q7, q8, q9, q10⟩, r0, r1, r2, r3, r4, r5, r6, r7, r8, r9, r10⟩ := hSw; go_simp <;> with_reducible rfl)⟩) (by assumption) ?_
                try simp only [Act.put, List.setIfInBounds_toArray, List.set_cons_zero, List.set_cons_succ]
                refine wpAnyH_take (i := 1) (v := ?_) (by rw [List.getElem?_toArray]; exact rfl) (by kernel_rfl) (by kernel_rfl) (by kernel_rfl) (by exact fun _ _ _ h => h) (Or.inl ⟨by rfl, (by intro W hSw; obtain ⟨⟨q0, q1, q2, q3, q4, q5, q6, q7, q8, q9, q10⟩, r0, r1, r2, r3, r4, r5, r6, r7, r8, r9, r10⟩ := hSw; go_simp <;> with_reducible rfl)⟩) (by assumption) ?_
                try simp only [Act.put, List.setIfInBounds_toArray, List.set_cons_zero, List.set_cons_succ]
                refine wpAnyH_take (i := 4) (v := ?_) (by rw [List.getElem?_toArray]; exact rfl) (by kernel_rfl) (by kernel_rfl) (by kernel_rfl) (by exact fun _ _ _ h => h) (Or.inl ⟨by rfl, (by intro W hSw; obtain ⟨⟨q0, q1, q2, q3, q4, q5, q6, q7, q8, q9, q10⟩, r0, r1, r2, r3, r4, r5, r6, r7, r8, r9, r10⟩ := hSw; go_simp <;> with_reducible rfl)⟩) (by assumption) ?_
                try simp only [Act.put, List.setIfInBounds_toArray, List.set_cons_zero, List.set_cons_succ]
                refine wpAnyH_take (i := 5) (v := ?_) (by rw [List.getElem?_toArray]; exact rfl) (by kernel_rfl) (by kernel_rfl) (by kernel_rfl) (by exact fun _ _ _ h => h) (Or.inl ⟨by rfl, (by intro W hSw; obtain ⟨⟨q0, q1, q2, q3, q4, q5, q6, q7, q8, q9, q10⟩, r0, r1, r2, r3, r4, r5, r6, r7, r8, r9, r10⟩ := hSw; go_simp <;> with_reducible rfl)⟩) (by assumption) ?_
                try simp only [Act.put, List.setIfInBounds_toArray, List.set_cons_zero, List.set_cons_succ]
                refine wpAnyH_take (i := 6) (v := ?_) (by rw [List.getElem?_toArray]; exact rfl) (by kernel_rfl) (by kernel_rfl) (by kernel_rfl) (by exact fun _ _ _ h => h) (Or.inl ⟨by rfl, (by intro W hSw; obtain ⟨⟨q0, q1, q2, q3, q4, q5, q6, q7, q8, q9, q10⟩, r0, r1, r2, r3, r4, r5, r6, r7, r8, r9, r10⟩ := hSw; go_simp <;> with_reducible rfl)⟩) (by assumption) ?_
                try simp only [Act.put, List.setIfInBounds_toArray, List.set_cons_zero, List.set_cons_succ]
                refine wpAnyH_take (i := 7) (v := ?_) (by rw [List.getElem?_toArray]; exact rfl) (by kernel_rfl) (by kernel_rfl) (by kernel_rfl) (by exact fun _ _ _ h => h) (Or.inl ⟨by rfl, (by intro W hSw; obtain ⟨⟨q0, q1, q2, q3, q4, q5, q6, q7, q8, q9, q10⟩, r0, r1, r2, r3, r4, r5, r6, r7, r8, r9, r10⟩ := hSw; go_simp <;> with_reducible rfl)⟩) (by assumption) ?_
                try simp only [Act.put, List.setIfInBounds_toArray, List.set_cons_zero, List.set_cons_succ]
                refine wpAnyH_take (i := 8) (v := ?_) (by rw [List.getElem?_toArray]; exact rfl) (by kernel_rfl) (by kernel_rfl) (by kernel_rfl) (by exact fun _ _ _ h => h) (Or.inl ⟨by rfl, (by intro W hSw; obtain ⟨⟨q0, q1, q2, q3, q4, q5, q6, q7, q8, q9, q10⟩, r0, r1, r2, r3, r4, r5, r6, r7, r8, r9, r10⟩ := hSw; go_simp <;> with_reducible rfl)⟩) (by assumption) ?_
                try simp only [Act.put, List.setIfInBounds_toArray, List.set_cons_zero, List.set_cons_succ]
                refine wpAnyH_ready (rs := [2]) (by kernel_rfl) (by simp) (AllReadyH.cons (by rw [List.getElem?_toArray]; exact rfl) (fun K9 hK9 => ?_) AllReadyH.nil)
                go_simp
                refine (cmpPdR (RA.out _ (KN.out.trans (Kept.drew _))) (RB.out _ (KN.out.trans (Kept.drew _))) HX.out).mono ?_
                rintro e9 t4 ⟨rfl, k1⟩
                have J1 := Lib.hid ((Kept.drew _).trans k1)
                clear k1
                refine hK9.out _ _ (HS.out _ J1.out) (fun hHeld4 => ?_)
                clear hK9 K9
                try simp only [Act.put, List.setIfInBounds_toArray, List.set_cons_zero, List.set_cons_succ]
                refine wpAnyH_take (i := 3) (v := ?_) (by rw [List.getElem?_toArray]; exact rfl) (by kernel_rfl) (by kernel_rfl) (by kernel_rfl) (by exact fun _ _ _ h => h) (Or.inl ⟨by rfl, (by intro W hSw; obtain ⟨⟨q0, q1, q2, q3, q4, q5, q6, q7, q8, q9, q10⟩, r0, r1, r2, r3, r4, r5, r6, r7, r8, r9, r10⟩ := hSw; go_simp <;> with_reducible rfl)⟩) (by assumption) ?_
                try simp only [Act.put, List.setIfInBounds_toArray, List.set_cons_zero, List.set_cons_succ]
                refine wpAnyH_take (i := 9) (v := ?_) (by rw [List.getElem?_toArray]; exact rfl) (by kernel_rfl) (by kernel_rfl) (by kernel_rfl) (by exact fun _ _ _ h => h) (Or.inl ⟨by rfl, (by intro W hSw; obtain ⟨⟨q0, q1, q2, q3, q4, q5, q6, q7, q8, q9, q10⟩, r0, r1, r2, r3, r4, r5, r6, r7, r8, r9, r10⟩ := hSw; go_simp <;> with_reducible rfl)⟩) (by assumption) ?_
                try simp only [Act.put, List.setIfInBounds_toArray, List.set_cons_zero, List.set_cons_succ]
                refine wpAnyH_take (i := 10) (v := ?_) (by rw [List.getElem?_toArray]; exact rfl) (by kernel_rfl) (by kernel_rfl) (by kernel_rfl) (by exact fun _ _ _ h => h) (Or.inl ⟨by rfl, (by intro W hSw; obtain ⟨⟨q0, q1, q2, q3, q4, q5, q6, q7, q8, q9, q10⟩, r0, r1, r2, r3, r4, r5, r6, r7, r8, r9, r10⟩ := hSw; go_simp <;> with_reducible rfl)⟩) (by assumption) ?_
                try simp only [Act.put, List.setIfInBounds_toArray, List.set_cons_zero, List.set_cons_succ]
                refine wpAnyH_take (i := 11) (v := ?_) (by rw [List.getElem?_toArray]; exact rfl) (by kernel_rfl) (by kernel_rfl) (by kernel_rfl) (by exact fun _ _ _ h => h) (Or.inl ⟨by rfl, (by intro W hSw; obtain ⟨⟨q0, q1, q2, q3, q4, q5, q6, q7, q8, q9, q10⟩, r0, r1, r2, r3, r4, r5, r6, r7, r8, r9, r10⟩ := hSw; go_simp <;> with_reducible rfl)⟩) (by assumption) ?_
                try simp only [Act.put, List.setIfInBounds_toArray, List.set_cons_zero, List.set_cons_succ]
                refine wpAnyH_take (i := 12) (v := ?_) (by rw [List.getElem?_toArray]; exact rfl) (by kernel_rfl) (by kernel_rfl) (by kernel_rfl) (by exact fun _ _ _ h => h) (Or.inl ⟨by rfl, (by intro W hSw; obtain ⟨⟨q0, q1, q2, q3, q4, q5, q6, q7, q8, q9, q10⟩, r0, r1, r2, r3, r4, r5, r6, r7, r8, r9, r10⟩ := hSw; go_simp <;> with_reducible rfl)⟩) (by assumption) ?_
                try simp only [Act.put, List.setIfInBounds_toArray, List.set_cons_zero, List.set_cons_succ]
                refine wpAnyH_take (i := 13) (v := ?_) (by rw [List.getElem?_toArray]; exact rfl) (by kernel_rfl) (by kernel_rfl) (by kernel_rfl) (by exact fun _ _ _ h => h) (Or.inl ⟨by rfl, (by intro W hSw; obtain ⟨⟨q0, q1, q2, q3, q4, q5, q6, q7, q8, q9, q10⟩, r0, r1, r2, r3, r4, r5, r6, r7, r8, r9, r10⟩ := hSw; go_simp <;> with_reducible rfl)⟩) (by assumption) ?_
                try simp only [Act.put, List.setIfInBounds_toArray, List.set_cons_zero, List.set_cons_succ]
                refine wpAnyH_take (i := 14) (v := ?_) (by rw [List.getElem?_toArray]; exact rfl) (by kernel_rfl) (by kernel_rfl) (by kernel_rfl) (by exact fun _ _ _ h => h) (Or.inl ⟨by rfl, (by intro W hSw; obtain ⟨⟨q0, q1, q2, q3, q4, q5, q6, q7, q8, q9, q10⟩, r0, r1, r2, r3, r4, r5, r6, r7, r8, r9, r10⟩ := hSw; go_simp <;> with_reducible rfl)⟩) (by assumption) ?_
                try simp only [Act.put, List.setIfInBounds_toArray, List.set_cons_zero, List.set_cons_succ]
                refine wpAnyH_take (i := 15) (v := ?_) (by rw [List.getElem?_toArray]; exact rfl) (by kernel_rfl) (by kernel_rfl) (by kernel_rfl) (by exact fun _ _ _ h => h) (Or.inl ⟨by rfl, (by intro W hSw; obtain ⟨⟨q0, q1, q2, q3, q4, q5, q6, q7, q8, q9, q10⟩, r0, r1, r2, r3, r4, r5, r6, r7, r8, r9, r10⟩ := hSw; go_simp <;> with_reducible rfl)⟩) (by assumption) ?_
                try simp only [Act.put, List.setIfInBounds_toArray, List.set_cons_zero, List.set_cons_succ]
                refine wpAnyH_take (i := 16) (v := ?_) (by rw [List.getElem?_toArray]; exact rfl) (by kernel_rfl) (by kernel_rfl) (by kernel_rfl) (by exact fun _ _ _ h => h) (Or.inl ⟨by rfl, (by intro W hSw; obtain ⟨⟨q0, q1, q2, q3, q4, q5, q6, q7, q8, q9, q10⟩, r0, r1, r2, r3, r4, r5, r6, r7, r8, r9, r10⟩ := hSw; go_simp <;> with_reducible rfl)⟩) (by assumption) ?_
                try simp only [Act.put, List.setIfInBounds_toArray, List.set_cons_zero, List.set_cons_succ]
                refine wpAnyH_take (i := 17) (v := ?_) (by rw [List.getElem?_toArray]; exact rfl) (by kernel_rfl) (by kernel_rfl) (by kernel_rfl) (by exact fun _ _ _ h => h) (Or.inl ⟨by rfl, (by intro W hSw; obtain ⟨⟨q0, q1, q2, q3, q4, q5, q6, q7, q8, q9, q10⟩, r0, r1, r2, r3, r4, r5, r6, r7, r8, r9, r10⟩ := hSw; go_simp <;> with_reducible rfl)⟩) (by assumption) ?_
                try simp only [Act.put, List.setIfInBounds_toArray, List.set_cons_zero, List.set_cons_succ]
                refine wpAnyH_take (i := 18) (v := ?_) (by rw [List.getElem?_toArray]; exact rfl) (by kernel_rfl) (by kernel_rfl) (by kernel_rfl) (by exact fun _ _ _ h => h) (Or.inl ⟨by rfl, (by intro W hSw; obtain ⟨⟨q0, q1, q2, q3, q4, q5, q6, q7, q8, q9, q10⟩, r0, r1, r2, r3, r4, r5, r6, r7, r8, r9, r10⟩ := hSw; go_simp <;> with_reducible rfl)⟩) (by assumption) ?_
                try simp only [Act.put, List.setIfInBounds_toArray, List.set_cons_zero, List.set_cons_succ]
                refine wpAnyH_take (i := 19) (v := ?_) (by rw [List.getElem?_toArray]; exact rfl) (by kernel_rfl) (by kernel_rfl) (by kernel_rfl) (by exact fun _ _ _ h => h) (Or.inl ⟨by rfl, (by intro W hSw; obtain ⟨⟨q0, q1, q2, q3, q4, q5, q6, q7, q8, q9, q10⟩, r0, r1, r2, r3, r4, r5, r6, r7, r8, r9, r10⟩ := hSw; go_simp <;> with_reducible rfl)⟩) (by assumption) ?_
                try simp only [Act.put, List.setIfInBounds_toArray, List.set_cons_zero, List.set_cons_succ]
                refine wpAnyH_take (i := 21) (v := ?_) (by rw [List.getElem?_toArray]; exact rfl) (by kernel_rfl) (by kernel_rfl) (by kernel_rfl) (by exact fun _ _ _ h => h) (Or.inl ⟨by rfl, (by intro W hSw; obtain ⟨⟨q0, q1, q2, q3, q4, q5, q6, q7, q8, q9, q10⟩, r0, r1, r2, r3, r4, r5, r6, r7, r8, r9, r10⟩ := hSw; go_simp <;> with_reducible rfl)⟩) (by assumption) ?_
                try simp only [Act.put, List.setIfInBounds_toArray, List.set_cons_zero, List.set_cons_succ]
                refine wpAnyH_take (i := 22) (v := ?_) (by rw [List.getElem?_toArray]; exact rfl) (by kernel_rfl) (by kernel_rfl) (by kernel_rfl) (by exact fun _ _ _ h => h) (Or.inl ⟨by rfl, (by intro W hSw; obtain ⟨⟨q0, q1, q2, q3, q4, q5, q6, q7, q8, q9, q10⟩, r0, r1, r2, r3, r4, r5, r6, r7, r8, r9, r10⟩ := hSw; go_simp <;> with_reducible rfl)⟩) (by assumption) ?_
                try simp only [Act.put, List.setIfInBounds_toArray, List.set_cons_zero, List.set_cons_succ]
                refine wpAnyH_ready (rs := [20]) (by kernel_rfl) (by simp) (AllReadyH.cons (by rw [List.getElem?_toArray]; exact rfl) (fun K9 hK9 => ?_) AllReadyH.nil)
                go_simp
                refine (cmpPdR (RA.out _ (KN.out.trans J1.out)) (RB.out _ (KN.out.trans J1.out)) HX.out).mono ?_
                rintro e9 t5 ⟨rfl, k1⟩
                have J2 := Lib.hid (J1.out.trans k1)
                clear k1
                refine hK9.out _ _ (HS.out _ J2.out) (fun hHeld5 => ?_)
                clear hK9 K9
                try simp only [Act.put, List.setIfInBounds_toArray, List.set_cons_zero, List.set_cons_succ]
                refine wpAnyH_ready (rs := [23]) (by kernel_rfl) (by simp) (AllReadyH.cons (by rw [List.getElem?_toArray]; exact rfl) (fun K9 hK9 => ?_) AllReadyH.nil)
                go_simp
                refine (cmpPdR (RB.out _ (KN.out.trans J2.out)) (RA.out _ (KN.out.trans J2.out)) HU.out).mono ?_
                rintro e9 t6 ⟨rfl, k1⟩
                have J3 := Lib.hid (J2.out.trans k1)
                clear k1
                refine hK9.out _ _ (HS.out _ J3.out) (fun hHeld6 => ?_)
                clear hK9 K9
                try simp only [Act.put, List.setIfInBounds_toArray, List.set_cons_zero, List.set_cons_succ]
                refine wpAnyH_take (i := 24) (v := ?_) (by rw [List.getElem?_toArray]; exact rfl) (by kernel_rfl) (by kernel_rfl) (by kernel_rfl) (by exact fun _ _ _ h => h) (Or.inl ⟨by rfl, (by intro W hSw; obtain ⟨⟨q0, q1, q2, q3, q4, q5, q6, q7, q8, q9, q10⟩, r0, r1, r2, r3, r4, r5, r6, r7, r8, r9, r10⟩ := hSw; go_simp <;> with_reducible rfl)⟩) (by assumption) ?_
                try simp only [Act.put, List.setIfInBounds_toArray, List.set_cons_zero, List.set_cons_succ]
                refine wpAnyH_take (i := 25) (v := ?_) (by rw [List.getElem?_toArray]; exact rfl) (by kernel_rfl) (by kernel_rfl) (by kernel_rfl) (by exact fun _ _ _ h => h) (Or.inl ⟨by rfl, (by intro W hSw; obtain ⟨⟨q0, q1, q2, q3, q4, q5, q6, q7, q8, q9, q10⟩, r0, r1, r2, r3, r4, r5, r6, r7, r8, r9, r10⟩ := hSw; go_simp <;> with_reducible rfl)⟩) (by assumption) ?_
                try simp only [Act.put, List.setIfInBounds_toArray, List.set_cons_zero, List.set_cons_succ]
                refine wpAnyH_take (i := 26) (v := ?_) (by rw [List.getElem?_toArray]; exact rfl) (by kernel_rfl) (by kernel_rfl) (by kernel_rfl) (by exact fun _ _ _ h => h) (Or.inl ⟨by rfl, (by intro W hSw; obtain ⟨⟨q0, q1, q2, q3, q4, q5, q6, q7, q8, q9, q10⟩, r0, r1, r2, r3, r4, r5, r6, r7, r8, r9, r10⟩ := hSw; go_simp <;> with_reducible rfl)⟩) (by assumption) ?_
                try simp only [Act.put, List.setIfInBounds_toArray, List.set_cons_zero, List.set_cons_succ]
                refine wpAnyH_take (i := 27) (v := ?_) (by rw [List.getElem?_toArray]; exact rfl) (by kernel_rfl) (by kernel_rfl) (by kernel_rfl) (by exact fun _ _ _ h => h) (Or.inl ⟨by rfl, (by intro W hSw; obtain ⟨⟨q0, q1, q2, q3, q4, q5, q6, q7, q8, q9, q10⟩, r0, r1, r2, r3, r4, r5, r6, r7, r8, r9, r10⟩ := hSw; go_simp <;> with_reducible rfl)⟩) (by assumption) ?_
                try simp only [Act.put, List.setIfInBounds_toArray, List.set_cons_zero, List.set_cons_succ]
                refine wpAnyH_done (by kernel_rfl) ?_ _
                go_wp2
                go_ret
                exact ⟨rfl, HK0.out.trans (KN.out.trans J3.out)⟩
            | false =>
              obtain rfl : e1 = false := by rw [hee]; rfl
              clear hee he3'
              refine wp_region_held_drew (S := fun W => ((W.cell? ⟨w.heap.size, 0, none⟩ = some (.string a0) ∧ W.cell? ⟨w.heap.size, 1, none⟩ = some (.string a1) ∧ W.cell? ⟨w.heap.size, 2, none⟩ = some (.int .i64 a2) ∧ W.cell? ⟨w.heap.size, 3, none⟩ = some (va1) ∧ W.cell? ⟨w.heap.size, 4, none⟩ = some (va2) ∧ W.cell? ⟨w.heap.size, 5, none⟩ = some (va3) ∧ W.cell? ⟨w.heap.size, 6, none⟩ = some (va4) ∧ W.cell? ⟨w.heap.size, 7, none⟩ = some (.string a3) ∧ W.cell? ⟨w.heap.size, 8, none⟩ = some (.int .i64 a4) ∧ W.cell? ⟨w.heap.size, 9, none⟩ = some (.string a5) ∧ W.cell? ⟨w.heap.size, 10, none⟩ = some (.bool a6)) ∧ (W.cell? ⟨(w.heap.size + 1), 0, none⟩ = some (.string b0) ∧ W.cell? ⟨(w.heap.size + 1), 1, none⟩ = some (.string b1) ∧ W.cell? ⟨(w.heap.size + 1), 2, none⟩ = some (.int .i64 b2) ∧ W.cell? ⟨(w.heap.size + 1), 3, none⟩ = some (vb1) ∧ W.cell? ⟨(w.heap.size + 1), 4, none⟩ = some (vb2) ∧ W.cell? ⟨(w.heap.size + 1), 5, none⟩ = some (vb3) ∧ W.cell? ⟨(w.heap.size + 1), 6, none⟩ = some (vb4) ∧ W.cell? ⟨(w.heap.size + 1), 7, none⟩ = some (.string b3) ∧ W.cell? ⟨(w.heap.size + 1), 8, none⟩ = some (.int .i64 b4) ∧ W.cell? ⟨(w.heap.size + 1), 9, none⟩ = some (.string b5) ∧ W.cell? ⟨(w.heap.size + 1), 10, none⟩ = some (.bool b6)))) (by kernel_rfl) (HS.out _ (Kept.drew _)) (fun hHeld => ?_)
              refine wpAnyH_take (i := 0) (v := ?_) (by rw [List.getElem?_toArray]; exact rfl) (by kernel_rfl) (by kernel_rfl) (by kernel_rfl) (by exact fun _ _ _ h => h) (Or.inl ⟨by rfl, (by intro W hSw; obtain ⟨⟨q0, q1, q2, q3, q4, q5, q6, q7, q8, q9, q10⟩, r0, r1, r2, r3, r4, r5, r6, r7, r8, r9, r10⟩ := hSw; go_simp <;> with_reducible rfl)⟩) (by assumption) ?_
              try simp only [Act.put, List.setIfInBounds_toArray, List.set_cons_zero, List.set_cons_succ]
              refine wpAnyH_take (i := 1) (v := ?_) (by rw [List.getElem?_toArray]; exact rfl) (by kernel_rfl) (by kernel_rfl) (by kernel_rfl) (by exact fun _ _ _ h => h) (Or.inl ⟨by rfl, (by intro W hSw; obtain ⟨⟨q0, q1, q2, q3, q4, q5, q6, q7, q8, q9, q10⟩, r0, r1, r2, r3, r4, r5, r6, r7, r8, r9, r10⟩ := hSw; go_simp <;> with_reducible rfl)⟩) (by assumption) ?_
              try simp only [Act.put, List.setIfInBounds_toArray, List.set_cons_zero, List.set_cons_succ]
              refine wpAnyH_take (i := 4) (v := ?_) (by rw [List.getElem?_toArray]; exact rfl) (by kernel_rfl) (by kernel_rfl) (by kernel_rfl) (by exact fun _ _ _ h => h) (Or.inl ⟨by rfl, (by intro W hSw; obtain ⟨⟨q0, q1, q2, q3, q4, q5, q6, q7, q8, q9, q10⟩, r0, r1, r2, r3, r4, r5, r6, r7, r8, r9, r10⟩ := hSw; go_simp <;> with_reducible rfl)⟩) (by assumption) ?_
              try simp only [Act.put, List.setIfInBounds_toArray, List.set_cons_zero, List.set_cons_succ]
              refine wpAnyH_take (i := 5) (v := ?_) (by rw [List.getElem?_toArray]; exact rfl) (by kernel_rfl) (by kernel_rfl) (by kernel_rfl) (by exact fun _ _ _ h => h) (Or.inl ⟨by rfl, (by intro W hSw; obtain ⟨⟨q0, q1, q2, q3, q4, q5, q6, q7, q8, q9, q10⟩, r0, r1, r2, r3, r4, r5, r6, r7, r8, r9, r10⟩ := hSw; go_simp <;> with_reducible rfl)⟩) (by assumption) ?_
              try simp only [Act.put, List.setIfInBounds_toArray, List.set_cons_zero, List.set_cons_succ]
              refine wpAnyH_take (i := 6) (v := ?_) (by rw [List.getElem?_toArray]; exact rfl) (by kernel_rfl) (by kernel_rfl) (by kernel_rfl) (by exact fun _ _ _ h => h) (Or.inl ⟨by rfl, (by intro W hSw; obtain ⟨⟨q0, q1, q2, q3, q4, q5, q6, q7, q8, q9, q10⟩, r0, r1, r2, r3, r4, r5, r6, r7, r8, r9, r10⟩ := hSw; go_simp <;> with_reducible rfl)⟩) (by assumption) ?_
              try simp only [Act.put, List.setIfInBounds_toArray, List.set_cons_zero, List.set_cons_succ]
              refine wpAnyH_take (i := 7) (v := ?_) (by rw [List.getElem?_toArray]; exact rfl) (by kernel_rfl) (by kernel_rfl) (by kernel_rfl) (by exact fun _ _ _ h => h) (Or.inl ⟨by rfl, (by intro W hSw; obtain ⟨⟨q0, q1, q2, q3, q4, q5, q6, q7, q8, q9, q10⟩, r0, r1, r2, r3, r4, r5, r6, r7, r8, r9, r10⟩ := hSw; go_simp <;> with_reducible rfl)⟩) (by assumption) ?_
              try simp only [Act.put, List.setIfInBounds_toArray, List.set_cons_zero, List.set_cons_succ]
              refine wpAnyH_take (i := 8) (v := ?_) (by rw [List.getElem?_toArray]; exact rfl) (by kernel_rfl) (by kernel_rfl) (by kernel_rfl) (by exact fun _ _ _ h => h) (Or.inl ⟨by rfl, (by intro W hSw; obtain ⟨⟨q0, q1, q2, q3, q4, q5, q6, q7, q8, q9, q10⟩, r0, r1, r2, r3, r4, r5, r6, r7, r8, r9, r10⟩ := hSw; go_simp <;> with_reducible rfl)⟩) (by assumption) ?_
              try simp only [Act.put, List.setIfInBounds_toArray, List.set_cons_zero, List.set_cons_succ]
              refine wpAnyH_ready (rs := [2]) (by kernel_rfl) (by simp) (AllReadyH.cons (by rw [List.getElem?_toArray]; exact rfl) (fun K9 hK9 => ?_) AllReadyH.nil)
              go_simp
              refine (cmpPdR (RA.out _ (KN.out.trans (Kept.drew _))) (RB.out _ (KN.out.trans (Kept.drew _))) HX.out).mono ?_
              rintro e9 t7 ⟨rfl, k1⟩
              have J1 := Lib.hid ((Kept.drew _).trans k1)
              clear k1
              refine hK9.out _ _ (HS.out _ J1.out) (fun hHeld7 => ?_)
              clear hK9 K9
              try simp only [Act.put, List.setIfInBounds_toArray, List.set_cons_zero, List.set_cons_succ]
              refine wpAnyH_take (i := 3) (v := ?_) (by rw [List.getElem?_toArray]; exact rfl) (by kernel_rfl) (by kernel_rfl) (by kernel_rfl) (by exact fun _ _ _ h => h) (Or.inl ⟨by rfl, (by intro W hSw; obtain ⟨⟨q0, q1, q2, q3, q4, q5, q6, q7, q8, q9, q10⟩, r0, r1, r2, r3, r4, r5, r6, r7, r8, r9, r10⟩ := hSw; go_simp <;> with_reducible rfl)⟩) (by assumption) ?_
              try simp only [Act.put, List.setIfInBounds_toArray, List.set_cons_zero, List.set_cons_succ]
              refine wpAnyH_take (i := 9) (v := ?_) (by rw [List.getElem?_toArray]; exact rfl) (by kernel_rfl) (by kernel_rfl) (by kernel_rfl) (by exact fun _ _ _ h => h) (Or.inl ⟨by rfl, (by intro W hSw; obtain ⟨⟨q0, q1, q2, q3, q4, q5, q6, q7, q8, q9, q10⟩, r0, r1, r2, r3, r4, r5, r6, r7, r8, r9, r10⟩ := hSw; go_simp <;> with_reducible rfl)⟩) (by assumption) ?_
              try simp only [Act.put, List.setIfInBounds_toArray, List.set_cons_zero, List.set_cons_succ]
              refine wpAnyH_take (i := 10) (v := undef) (by rw [List.getElem?_toArray]; exact rfl) (by kernel_rfl) (by kernel_rfl) (by kernel_rfl) (by exact fun _ _ _ h => h) (Or.inr ⟨by rfl, rfl⟩) (by assumption) ?_
              try simp only [Act.put, List.setIfInBounds_toArray, List.set_cons_zero, List.set_cons_succ]
              refine wpAnyH_take (i := 11) (v := undef) (by rw [List.getElem?_toArray]; exact rfl) (by kernel_rfl) (by kernel_rfl) (by kernel_rfl) (by exact fun _ _ _ h => h) (Or.inr ⟨by rfl, rfl⟩) (by assumption) ?_
              try simp only [Act.put, List.setIfInBounds_toArray, List.set_cons_zero, List.set_cons_succ]
              refine wpAnyH_take (i := 12) (v := undef) (by rw [List.getElem?_toArray]; exact rfl) (by kernel_rfl) (by kernel_rfl) (by kernel_rfl) (by exact fun _ _ _ h => h) (Or.inr ⟨by rfl, rfl⟩) (by assumption) ?_
              try simp only [Act.put, List.setIfInBounds_toArray, List.set_cons_zero, List.set_cons_succ]
              refine wpAnyH_take (i := 13) (v := undef) (by rw [List.getElem?_toArray]; exact rfl) (by kernel_rfl) (by kernel_rfl) (by kernel_rfl) (by exact fun _ _ _ h => h) (Or.inr ⟨by rfl, rfl⟩) (by assumption) ?_
              try simp only [Act.put, List.setIfInBounds_toArray, List.set_cons_zero, List.set_cons_succ]
              refine wpAnyH_take (i := 14) (v := undef) (by rw [List.getElem?_toArray]; exact rfl) (by kernel_rfl) (by kernel_rfl) (by kernel_rfl) (by exact fun _ _ _ h => h) (Or.inr ⟨by rfl, rfl⟩) (by assumption) ?_
              try simp only [Act.put, List.setIfInBounds_toArray, List.set_cons_zero, List.set_cons_succ]
              refine wpAnyH_take (i := 15) (v := ?_) (by rw [List.getElem?_toArray]; exact rfl) (by kernel_rfl) (by kernel_rfl) (by kernel_rfl) (by exact fun _ _ _ h => h) (Or.inl ⟨by rfl, (by intro W hSw; obtain ⟨⟨q0, q1, q2, q3, q4, q5, q6, q7, q8, q9, q10⟩, r0, r1, r2, r3, r4, r5, r6, r7, r8, r9, r10⟩ := hSw; go_simp <;> with_reducible rfl)⟩) (by assumption) ?_
              try simp only [Act.put, List.setIfInBounds_toArray, List.set_cons_zero, List.set_cons_succ]
              refine wpAnyH_take (i := 16) (v := ?_) (by rw [List.getElem?_toArray]; exact rfl) (by kernel_rfl) (by kernel_rfl) (by kernel_rfl) (by exact fun _ _ _ h => h) (Or.inl ⟨by rfl, (by intro W hSw; obtain ⟨⟨q0, q1, q2, q3, q4, q5, q6, q7, q8, q9, q10⟩, r0, r1, r2, r3, r4, r5, r6, r7, r8, r9, r10⟩ := hSw; go_simp <;> with_reducible rfl)⟩) (by assumption) ?_
              try simp only [Act.put, List.setIfInBounds_toArray, List.set_cons_zero, List.set_cons_succ]
              refine wpAnyH_take (i := 17) (v := ?_) (by rw [List.getElem?_toArray]; exact rfl) (by kernel_rfl) (by kernel_rfl) (by kernel_rfl) (by exact fun _ _ _ h => h) (Or.inl ⟨by rfl, (by intro W hSw; obtain ⟨⟨q0, q1, q2, q3, q4, q5, q6, q7, q8, q9, q10⟩, r0, r1, r2, r3, r4, r5, r6, r7, r8, r9, r10⟩ := hSw; go_simp <;> with_reducible rfl)⟩) (by assumption) ?_
              try simp only [Act.put, List.setIfInBounds_toArray, List.set_cons_zero, List.set_cons_succ]
              refine wpAnyH_take (i := 18) (v := ?_) (by rw [List.getElem?_toArray]; exact rfl) (by kernel_rfl) (by kernel_rfl) (by kernel_rfl) (by exact fun _ _ _ h => h) (Or.inl ⟨by rfl, (by intro W hSw; obtain ⟨⟨q0, q1, q2, q3, q4, q5, q6, q7, q8, q9, q10⟩, r0, r1, r2, r3, r4, r5, r6, r7, r8, r9, r10⟩ := hSw; go_simp <;> with_reducible rfl)⟩) (by assumption) ?_
              try simp only [Act.put, List.setIfInBounds_toArray, List.set_cons_zero, List.set_cons_succ]
              refine wpAnyH_take (i := 19) (v := ?_) (by rw [List.getElem?_toArray]; exact rfl) (by kernel_rfl) (by kernel_rfl) (by kernel_rfl) (by exact fun _ _ _ h => h) (Or.inl ⟨by rfl, (by intro W hSw; obtain ⟨⟨q0, q1, q2, q3, q4, q5, q6, q7, q8, q9, q10⟩, r0, r1, r2, r3, r4, r5, r6, r7, r8, r9, r10⟩ := hSw; go_simp <;> with_reducible rfl)⟩) (by assumption) ?_
              try simp only [Act.put, List.setIfInBounds_toArray, List.set_cons_zero, List.set_cons_succ]
              refine wpAnyH_take (i := 21) (v := ?_) (by rw [List.getElem?_toArray]; exact rfl) (by kernel_rfl) (by kernel_rfl) (by kernel_rfl) (by exact fun _ _ _ h => h) (Or.inl ⟨by rfl, (by intro W hSw; obtain ⟨⟨q0, q1, q2, q3, q4, q5, q6, q7, q8, q9, q10⟩, r0, r1, r2, r3, r4, r5, r6, r7, r8, r9, r10⟩ := hSw; go_simp <;> with_reducible rfl)⟩) (by assumption) ?_
              try simp only [Act.put, List.setIfInBounds_toArray, List.set_cons_zero, List.set_cons_succ]
              refine wpAnyH_take (i := 22) (v := ?_) (by rw [List.getElem?_toArray]; exact rfl) (by kernel_rfl) (by kernel_rfl) (by kernel_rfl) (by exact fun _ _ _ h => h) (Or.inl ⟨by rfl, (by intro W hSw; obtain ⟨⟨q0, q1, q2, q3, q4, q5, q6, q7, q8, q9, q10⟩, r0, r1, r2, r3, r4, r5, r6, r7, r8, r9, r10⟩ := hSw; go_simp <;> with_reducible rfl)⟩) (by assumption) ?_
              try simp only [Act.put, List.setIfInBounds_toArray, List.set_cons_zero, List.set_cons_succ]
              refine wpAnyH_ready (rs := [20]) (by kernel_rfl) (by simp) (AllReadyH.cons (by rw [List.getElem?_toArray]; exact rfl) (fun K9 hK9 => ?_) AllReadyH.nil)
              go_simp
              refine (cmpPdR (RA.out _ (KN.out.trans J1.out)) (RB.out _ (KN.out.trans J1.out)) HX.out).mono ?_
              rintro e9 t8 ⟨rfl, k1⟩
              have J2 := Lib.hid (J1.out.trans k1)
              clear k1
              refine hK9.out _ _ (HS.out _ J2.out) (fun hHeld8 => ?_)
              clear hK9 K9
              try simp only [Act.put, List.setIfInBounds_toArray, List.set_cons_zero, List.set_cons_succ]
              refine wpAnyH_ready (rs := [23]) (by kernel_rfl) (by simp) (AllReadyH.cons (by rw [List.getElem?_toArray]; exact rfl) (fun K9 hK9 => ?_) AllReadyH.nil)
              go_simp
              refine (cmpPdR (RB.out _ (KN.out.trans J2.out)) (RA.out _ (KN.out.trans J2.out)) HU.out).mono ?_
              rintro e9 t9 ⟨rfl, k1⟩
              have J3 := Lib.hid (J2.out.trans k1)
              clear k1
              refine hK9.out _ _ (HS.out _ J3.out) (fun hHeld9 => ?_)
              clear hK9 K9
              try simp only [Act.put, List.setIfInBounds_toArray, List.set_cons_zero, List.set_cons_succ]
              refine wpAnyH_take (i := 24) (v := ?_) (by rw [List.getElem?_toArray]; exact rfl) (by kernel_rfl) (by kernel_rfl) (by kernel_rfl) (by exact fun _ _ _ h => h) (Or.inl ⟨by rfl, (by intro W hSw; obtain ⟨⟨q0, q1, q2, q3, q4, q5, q6, q7, q8, q9, q10⟩, r0, r1, r2, r3, r4, r5, r6, r7, r8, r9, r10⟩ := hSw; go_simp <;> with_reducible rfl)⟩) (by assumption) ?_
              try simp only [Act.put, List.setIfInBounds_toArray, List.set_cons_zero, List.set_cons_succ]
              refine wpAnyH_take (i := 25) (v := ?_) (by rw [List.getElem?_toArray]; exact rfl) (by kernel_rfl) (by kernel_rfl) (by kernel_rfl) (by exact fun _ _ _ h => h) (Or.inl ⟨by rfl, (by intro W hSw; obtain ⟨⟨q0, q1, q2, q3, q4, q5, q6, q7, q8, q9, q10⟩, r0, r1, r2, r3, r4, r5, r6, r7, r8, r9, r10⟩ := hSw; go_simp <;> with_reducible rfl)⟩) (by assumption) ?_
              try simp only [Act.put, List.setIfInBounds_toArray, List.set_cons_zero, List.set_cons_succ]
              refine wpAnyH_take (i := 26) (v := ?_) (by rw [List.getElem?_toArray]; exact rfl) (by kernel_rfl) (by kernel_rfl) (by kernel_rfl) (by exact fun _ _ _ h => h) (Or.inl ⟨by rfl, (by intro W hSw; obtain ⟨⟨q0, q1, q2, q3, q4, q5, q6, q7, q8, q9, q10⟩, r0, r1, r2, r3, r4, r5, r6, r7, r8, r9, r10⟩ := hSw; go_simp <;> with_reducible rfl)⟩) (by assumption) ?_
              try simp only [Act.put, List.setIfInBounds_toArray, List.set_cons_zero, List.set_cons_succ]
              refine wpAnyH_take (i := 27) (v := ?_) (by rw [List.getElem?_toArray]; exact rfl) (by kernel_rfl) (by kernel_rfl) (by kernel_rfl) (by exact fun _ _ _ h => h) (Or.inl ⟨by rfl, (by intro W hSw; obtain ⟨⟨q0, q1, q2, q3, q4, q5, q6, q7, q8, q9, q10⟩, r0, r1, r2, r3, r4, r5, r6, r7, r8, r9, r10⟩ := hSw; go_simp <;> with_reducible rfl)⟩) (by assumption) ?_
              try simp only [Act.put, List.setIfInBounds_toArray, List.set_cons_zero, List.set_cons_succ]
              refine wpAnyH_done (by kernel_rfl) ?_ _
              go_wp2
              go_ret
              exact ⟨rfl, HK0.out.trans (KN.out.trans J3.out)⟩
        · have gx : 0 ≤ x := by omega
          go_enter Tryz.func5, Tryz.ntmps5
          have K := Lib.hid (Kept.refl W0)
          go_wp2_with fail
          try rw [hW0]
          clear hW0
          refine (HKN.out).mono ?_
          rintro e w1 ⟨rfl, k⟩
          have K := Lib.hid (K.out.trans k)
          clear k
          have C9 := CA.out _ K.out
          have ya0 := C9.at_ 0 _ rfl
          have ya1 := C9.at_ 1 _ rfl
          have ya2 := C9.at_ 2 _ rfl
          have ya3 := C9.at_ 3 _ rfl
          have ya4 := C9.at_ 4 _ rfl
          have ya5 := C9.at_ 5 _ rfl
          have ya6 := C9.at_ 6 _ rfl
          have ya7 := C9.at_ 7 _ rfl
          have ya8 := C9.at_ 8 _ rfl
          have ya9 := C9.at_ 9 _ rfl
          have ya10 := C9.at_ 10 _ rfl
          clear C9
          go_wp2_with fail
          refine (fewPdR (RA.out _ K.out) FA.out).mono ?_
          rintro e w2 ⟨rfl, k⟩
          clear ya0 ya1 ya2 ya3 ya4 ya5 ya6 ya7 ya8 ya9 ya10
          have K := Lib.hid (K.out.trans k)
          clear k
          have C9 := CB.out _ K.out
          have yb0 := C9.at_ 0 _ rfl
          have yb1 := C9.at_ 1 _ rfl
          have yb2 := C9.at_ 2 _ rfl
          have yb3 := C9.at_ 3 _ rfl
          have yb4 := C9.at_ 4 _ rfl
          have yb5 := C9.at_ 5 _ rfl
          have yb6 := C9.at_ 6 _ rfl
          have yb7 := C9.at_ 7 _ rfl
          have yb8 := C9.at_ 8 _ rfl
          have yb9 := C9.at_ 9 _ rfl
          have yb10 := C9.at_ 10 _ rfl
          clear C9
          go_wp2_with fail
          refine (fewPdR (RB.out _ K.out) FB.out).mono ?_
          rintro e w3 ⟨rfl, k⟩
          clear yb0 yb1 yb2 yb3 yb4 yb5 yb6 yb7 yb8 yb9 yb10
          have K := Lib.hid (K.out.trans k)
          clear k
          have C9 := CC.out _ K.out
          have yc0 := C9.at_ 0 _ rfl
          have yc1 := C9.at_ 1 _ rfl
          have yc2 := C9.at_ 2 _ rfl
          have yc3 := C9.at_ 3 _ rfl
          have yc4 := C9.at_ 4 _ rfl
          have yc5 := C9.at_ 5 _ rfl
          have yc6 := C9.at_ 6 _ rfl
          have yc7 := C9.at_ 7 _ rfl
          have yc8 := C9.at_ 8 _ rfl
          have yc9 := C9.at_ 9 _ rfl
          have yc10 := C9.at_ 10 _ rfl
          clear C9
          go_wp2_with fail
          refine (fewPdR (RC.out _ K.out) FC.out).mono ?_
          rintro e w4 ⟨rfl, k⟩
          clear yc0 yc1 yc2 yc3 yc4 yc5 yc6 yc7 yc8 yc9 yc10
          have K := Lib.hid (K.out.trans k)
          clear k
          have C9 := CA.out _ K.out
          have ya0 := C9.at_ 0 _ rfl
          have ya1 := C9.at_ 1 _ rfl
          have ya2 := C9.at_ 2 _ rfl
          have ya3 := C9.at_ 3 _ rfl
          have ya4 := C9.at_ 4 _ rfl
          have ya5 := C9.at_ 5 _ rfl
          have ya6 := C9.at_ 6 _ rfl
          have ya7 := C9.at_ 7 _ rfl
          have ya8 := C9.at_ 8 _ rfl
          have ya9 := C9.at_ 9 _ rfl
          have ya10 := C9.at_ 10 _ rfl
          clear C9
          have C9 := CB.out _ K.out
          have yb0 := C9.at_ 0 _ rfl
          have yb1 := C9.at_ 1 _ rfl
          have yb2 := C9.at_ 2 _ rfl
          have yb3 := C9.at_ 3 _ rfl
          have yb4 := C9.at_ 4 _ rfl
          have yb5 := C9.at_ 5 _ rfl
          have yb6 := C9.at_ 6 _ rfl
          have yb7 := C9.at_ 7 _ rfl
          have yb8 := C9.at_ 8 _ rfl
          have yb9 := C9.at_ 9 _ rfl
          have yb10 := C9.at_ 10 _ rfl
          clear C9
          go_wp2_with fail
          refine (cmpPdR (RA.out _ K.out) (RB.out _ K.out) HX.out).mono ?_
          rintro e w5 ⟨rfl, k⟩
          clear ya0 ya1 ya2 ya3 ya4 ya5 ya6 ya7 ya8 ya9 ya10 yb0 yb1 yb2 yb3 yb4 yb5 yb6 yb7 yb8 yb9 yb10
          have K := Lib.hid (K.out.trans k)
          clear k
          go_wp2
          have HS := Lib.hid (show ∀ W, Kept w5 W → ((W.cell? ⟨w.heap.size, 0, none⟩ = some (.string a0) ∧ W.cell? ⟨w.heap.size, 1, none⟩ = some (.string a1) ∧ W.cell? ⟨w.heap.size, 2, none⟩ = some (.int .i64 a2) ∧ W.cell? ⟨w.heap.size, 3, none⟩ = some (va1) ∧ W.cell? ⟨w.heap.size, 4, none⟩ = some (va2) ∧ W.cell? ⟨w.heap.size, 5, none⟩ = some (va3) ∧ W.cell? ⟨w.heap.size, 6, none⟩ = some (va4) ∧ W.cell? ⟨w.heap.size, 7, none⟩ = some (.string a3) ∧ W.cell? ⟨w.heap.size, 8, none⟩ = some (.int .i64 a4) ∧ W.cell? ⟨w.heap.size, 9, none⟩ = some (.string a5) ∧ W.cell? ⟨w.heap.size, 10, none⟩ = some (.bool a6)) ∧ (W.cell? ⟨(w.heap.size + 1), 0, none⟩ = some (.string b0) ∧ W.cell? ⟨(w.heap.size + 1), 1, none⟩ = some (.string b1) ∧ W.cell? ⟨(w.heap.size + 1), 2, none⟩ = some (.int .i64 b2) ∧ W.cell? ⟨(w.heap.size + 1), 3, none⟩ = some (vb1) ∧ W.cell? ⟨(w.heap.size + 1), 4, none⟩ = some (vb2) ∧ W.cell? ⟨(w.heap.size + 1), 5, none⟩ = some (vb3) ∧ W.cell? ⟨(w.heap.size + 1), 6, none⟩ = some (vb4) ∧ W.cell? ⟨(w.heap.size + 1), 7, none⟩ = some (.string b3) ∧ W.cell? ⟨(w.heap.size + 1), 8, none⟩ = some (.int .i64 b4) ∧ W.cell? ⟨(w.heap.size + 1), 9, none⟩ = some (.string b5) ∧ W.cell? ⟨(w.heap.size + 1), 10, none⟩ = some (.bool b6))) from fun W k => by
            have h := CA.out W (K.out.trans k)
            have g := CB.out W (K.out.trans k)
            exact ⟨⟨h.at_ 0 _ rfl, h.at_ 1 _ rfl, h.at_ 2 _ rfl, h.at_ 3 _ rfl, h.at_ 4 _ rfl, h.at_ 5 _ rfl, h.at_ 6 _ rfl, h.at_ 7 _ rfl, h.at_ 8 _ rfl, h.at_ 9 _ rfl, h.at_ 10 _ rfl⟩, ⟨g.at_ 0 _ rfl, g.at_ 1 _ rfl, g.at_ 2 _ rfl, g.at_ 3 _ rfl, g.at_ 4 _ rfl, g.at_ 5 _ rfl, g.at_ 6 _ rfl, g.at_ 7 _ rfl, g.at_ 8 _ rfl, g.at_ 9 _ rfl, g.at_ 10 _ rfl⟩⟩)
          have KN := Lib.hid (show Kept W0 w5 from K.out)
          cases e2 with
          | true =>
            cases e3 with
            | true =>
              obtain rfl : e1 = true := by rw [hee]; rfl
              clear hee
              refine wp_region_held_drew (S := fun W => ((W.cell? ⟨w.heap.size, 0, none⟩ = some (.string a0) ∧ W.cell? ⟨w.heap.size, 1, none⟩ = some (.string a1) ∧ W.cell? ⟨w.heap.size, 2, none⟩ = some (.int .i64 a2) ∧ W.cell? ⟨w.heap.size, 3, none⟩ = some (va1) ∧ W.cell? ⟨w.heap.size, 4, none⟩ = some (va2) ∧ W.cell? ⟨w.heap.size, 5, none⟩ = some (va3) ∧ W.cell? ⟨w.heap.size, 6, none⟩ = some (va4) ∧ W.cell? ⟨w.heap.size, 7, none⟩ = some (.string a3) ∧ W.cell? ⟨w.heap.size, 8, none⟩ = some (.int .i64 a4) ∧ W.cell? ⟨w.heap.size, 9, none⟩ = some (.string a5) ∧ W.cell? ⟨w.heap.size, 10, none⟩ = some (.bool a6)) ∧ (W.cell? ⟨(w.heap.size + 1), 0, none⟩ = some (.string b0) ∧ W.cell? ⟨(w.heap.size + 1), 1, none⟩ = some (.string b1) ∧ W.cell? ⟨(w.heap.size + 1), 2, none⟩ = some (.int .i64 b2) ∧ W.cell? ⟨(w.heap.size + 1), 3, none⟩ = some (vb1) ∧ W.cell? ⟨(w.heap.size + 1), 4, none⟩ = some (vb2) ∧ W.cell? ⟨(w.heap.size + 1), 5, none⟩ = some (vb3) ∧ W.cell? ⟨(w.heap.size + 1), 6, none⟩ = some (vb4) ∧ W.cell? ⟨(w.heap.size + 1), 7, none⟩ = some (.string b3) ∧ W.cell? ⟨(w.heap.size + 1), 8, none⟩ = some (.int .i64 b4) ∧ W.cell? ⟨(w.heap.size + 1), 9, none⟩ = some (.string b5) ∧ W.cell? ⟨(w.heap.size + 1), 10, none⟩ = some (.bool b6)))) (by kernel_rfl) (HS.out _ (Kept.drew _)) (fun hHeld => ?_)
              refine wpAnyH_take (i := 0) (v := ?_) (by rw [List.getElem?_toArray]; exact rfl) (by kernel_rfl) (by kernel_rfl) (by kernel_rfl) (by exact fun _ _ _ h => h) (Or.inl ⟨by rfl, (by intro W hSw; obtain ⟨⟨q0, q1, q2, q3, q4, q5, q6, q7, q8, q9, q10⟩, r0, r1, r2, r3, r4, r5, r6, r7, r8, r9, r10⟩ := hSw; go_simp <;> with_reducible rfl)⟩) (by assumption) ?_
              try simp only [Act.put, List.setIfInBounds_toArray, List.set_cons_zero, List.set_cons_succ]
              refine wpAnyH_take (i := 1) (v := ?_) (by rw [List.getElem?_toArray]; exact rfl) (by kernel_rfl) (by kernel_rfl) (by kernel_rfl) (by exact fun _ _ _ h => h) (Or.inl ⟨by rfl, (by intro W hSw; obtain ⟨⟨q0, q1, q2, q3, q4, q5, q6, q7, q8, q9, q10⟩, r0, r1, r2, r3, r4, r5, r6, r7, r8, r9, r10⟩ := hSw; go_simp <;> with_reducible rfl)⟩) (by assumption) ?_
              try simp only [Act.put, List.setIfInBounds_toArray, List.set_cons_zero, List.set_cons_succ]
              refine wpAnyH_take (i := 4) (v := ?_) (by rw [List.getElem?_toArray]; exact rfl) (by kernel_rfl) (by kernel_rfl) (by kernel_rfl) (by exact fun _ _ _ h => h) (Or.inl ⟨by rfl, (by intro W hSw; obtain ⟨⟨q0, q1, q2, q3, q4, q5, q6, q7, q8, q9, q10⟩, r0, r1, r2, r3, r4, r5, r6, r7, r8, r9, r10⟩ := hSw; go_simp <;> with_reducible rfl)⟩) (by assumption) ?_
              try simp only [Act.put, List.setIfInBounds_toArray, List.set_cons_zero, List.set_cons_succ]
              refine wpAnyH_take (i := 5) (v := ?_) (by rw [List.getElem?_toArray]; exact rfl) (by kernel_rfl) (by kernel_rfl) (by kernel_rfl) (by exact fun _ _ _ h => h) (Or.inl ⟨by rfl, (by intro W hSw; obtain ⟨⟨q0, q1, q2, q3, q4, q5, q6, q7, q8, q9, q10⟩, r0, r1, r2, r3, r4, r5, r6, r7, r8, r9, r10⟩ := hSw; go_simp <;> with_reducible rfl)⟩) (by assumption) ?_
              try simp only [Act.put, List.setIfInBounds_toArray, List.set_cons_zero, List.set_cons_succ]
              refine wpAnyH_take (i := 6) (v := ?_) (by rw [List.getElem?_toArray]; exact rfl) (by kernel_rfl) (by kernel_rfl) (by kernel_rfl) (by exact fun _ _ _ h => h) (Or.inl ⟨by rfl, (by intro W hSw; obtain ⟨⟨q0, q1, q2, q3, q4, q5, q6, q7, q8, q9, q10⟩, r0, r1, r2, r3, r4, r5, r6, r7, r8, r9, r10⟩ := hSw; go_simp <;> with_reducible rfl)⟩) (by assumption) ?_
              try simp only [Act.put, List.setIfInBounds_toArray, List.set_cons_zero, List.set_cons_succ]
              refine wpAnyH_take (i := 7) (v := ?_) (by rw [List.getElem?_toArray]; exact rfl) (by kernel_rfl) (by kernel_rfl) (by kernel_rfl) (by exact fun _ _ _ h => h) (Or.inl ⟨by rfl, (by intro W hSw; obtain ⟨⟨q0, q1, q2, q3, q4, q5, q6, q7, q8, q9, q10⟩, r0, r1, r2, r3, r4, r5, r6, r7, r8, r9, r10⟩ := hSw; go_simp <;> with_reducible rfl)⟩) (by assumption) ?_
              try simp only [Act.put, List.setIfInBounds_toArray, List.set_cons_zero, List.set_cons_succ]
              refine wpAnyH_take (i := 8) (v := ?_) (by rw [List.getElem?_toArray]; exact rfl) (by kernel_rfl) (by kernel_rfl) (by kernel_rfl) (by exact fun _ _ _ h => h) (Or.inl ⟨by rfl, (by intro W hSw; obtain ⟨⟨q0, q1, q2, q3, q4, q5, q6, q7, q8, q9, q10⟩, r0, r1, r2, r3, r4, r5, r6, r7, r8, r9, r10⟩ := hSw; go_simp <;> with_reducible rfl)⟩) (by assumption) ?_
              try simp only [Act.put, List.setIfInBounds_toArray, List.set_cons_zero, List.set_cons_succ]
              refine wpAnyH_ready (rs := [2]) (by kernel_rfl) (by simp) (AllReadyH.cons (by rw [List.getElem?_toArray]; exact rfl) (fun K9 hK9 => ?_) AllReadyH.nil)
              go_simp
              refine (cmpPdR (RA.out _ (KN.out.trans (Kept.drew _))) (RB.out _ (KN.out.trans (Kept.drew _))) HX.out).mono ?_
              rintro e9 t1 ⟨rfl, k1⟩
              have J1 := Lib.hid ((Kept.drew _).trans k1)
              clear k1
              refine hK9.out _ _ (HS.out _ J1.out) (fun hHeld1 => ?_)
              clear hK9 K9
              try simp only [Act.put, List.setIfInBounds_toArray, List.set_cons_zero, List.set_cons_succ]
              refine wpAnyH_take (i := 3) (v := ?_) (by rw [List.getElem?_toArray]; exact rfl) (by kernel_rfl) (by kernel_rfl) (by kernel_rfl) (by exact fun _ _ _ h => h) (Or.inl ⟨by rfl, (by intro W hSw; obtain ⟨⟨q0, q1, q2, q3, q4, q5, q6, q7, q8, q9, q10⟩, r0, r1, r2, r3, r4, r5, r6, r7, r8, r9, r10⟩ := hSw; go_simp <;> with_reducible rfl)⟩) (by assumption) ?_
              try simp only [Act.put, List.setIfInBounds_toArray, List.set_cons_zero, List.set_cons_succ]
              refine wpAnyH_take (i := 9) (v := ?_) (by rw [List.getElem?_toArray]; exact rfl) (by kernel_rfl) (by kernel_rfl) (by kernel_rfl) (by exact fun _ _ _ h => h) (Or.inl ⟨by rfl, (by intro W hSw; obtain ⟨⟨q0, q1, q2, q3, q4, q5, q6, q7, q8, q9, q10⟩, r0, r1, r2, r3, r4, r5, r6, r7, r8, r9, r10⟩ := hSw; go_simp <;> with_reducible rfl)⟩) (by assumption) ?_
              try simp only [Act.put, List.setIfInBounds_toArray, List.set_cons_zero, List.set_cons_succ]
              refine wpAnyH_take (i := 10) (v := ?_) (by rw [List.getElem?_toArray]; exact rfl) (by kernel_rfl) (by kernel_rfl) (by kernel_rfl) (by exact fun _ _ _ h => h) (Or.inl ⟨by rfl, (by intro W hSw; obtain ⟨⟨q0, q1, q2, q3, q4, q5, q6, q7, q8, q9, q10⟩, r0, r1, r2, r3, r4, r5, r6, r7, r8, r9, r10⟩ := hSw; go_simp <;> with_reducible rfl)⟩) (by assumption) ?_
              try simp only [Act.put, List.setIfInBounds_toArray, List.set_cons_zero, List.set_cons_succ]
              refine wpAnyH_take (i := 11) (v := ?_) (by rw [List.getElem?_toArray]; exact rfl) (by kernel_rfl) (by kernel_rfl) (by kernel_rfl) (by exact fun _ _ _ h => h) (Or.inl ⟨by rfl, (by intro W hSw; obtain ⟨⟨q0, q1, q2, q3, q4, q5, q6, q7, q8, q9, q10⟩, r0, r1, r2, r3, r4, r5, r6, r7, r8, r9, r10⟩ := hSw; go_simp <;> with_reducible rfl)⟩) (by assumption) ?_
              try simp only [Act.put, List.setIfInBounds_toArray, List.set_cons_zero, List.set_cons_succ]
              refine wpAnyH_take (i := 12) (v := ?_) (by rw [List.getElem?_toArray]; exact rfl) (by kernel_rfl) (by kernel_rfl) (by kernel_rfl) (by exact fun _ _ _ h => h) (Or.inl ⟨by rfl, (by intro W hSw; obtain ⟨⟨q0, q1, q2, q3, q4, q5, q6, q7, q8, q9, q10⟩, r0, r1, r2, r3, r4, r5, r6, r7, r8, r9, r10⟩ := hSw; go_simp <;> with_reducible rfl)⟩) (by assumption) ?_
              try simp only [Act.put, List.setIfInBounds_toArray, List.set_cons_zero, List.set_cons_succ]
              refine wpAnyH_take (i := 13) (v := ?_) (by rw [List.getElem?_toArray]; exact rfl) (by kernel_rfl) (by kernel_rfl) (by kernel_rfl) (by exact fun _ _ _ h => h) (Or.inl ⟨by rfl, (by intro W hSw; obtain ⟨⟨q0, q1, q2, q3, q4, q5, q6, q7, q8, q9, q10⟩, r0, r1, r2, r3, r4, r5, r6, r7, r8, r9, r10⟩ := hSw; go_simp <;> with_reducible rfl)⟩) (by assumption) ?_
              try simp only [Act.put, List.setIfInBounds_toArray, List.set_cons_zero, List.set_cons_succ]
              refine wpAnyH_take (i := 14) (v := ?_) (by rw [List.getElem?_toArray]; exact rfl) (by kernel_rfl) (by kernel_rfl) (by kernel_rfl) (by exact fun _ _ _ h => h) (Or.inl ⟨by rfl, (by intro W hSw; obtain ⟨⟨q0, q1, q2, q3, q4, q5, q6, q7, q8, q9, q10⟩, r0, r1, r2, r3, r4, r5, r6, r7, r8, r9, r10⟩ := hSw; go_simp <;> with_reducible rfl)⟩) (by assumption) ?_
              try simp only [Act.put, List.setIfInBounds_toArray, List.set_cons_zero, List.set_cons_succ]
              refine wpAnyH_take (i := 15) (v := ?_) (by rw [List.getElem?_toArray]; exact rfl) (by kernel_rfl) (by kernel_rfl) (by kernel_rfl) (by exact fun _ _ _ h => h) (Or.inl ⟨by rfl, (by intro W hSw; obtain ⟨⟨q0, q1, q2, q3, q4, q5, q6, q7, q8, q9, q10⟩, r0, r1, r2, r3, r4, r5, r6, r7, r8, r9, r10⟩ := hSw; go_simp <;> with_reducible rfl)⟩) (by assumption) ?_
              try simp only [Act.put, List.setIfInBounds_toArray, List.set_cons_zero, List.set_cons_succ]
              refine wpAnyH_take (i := 16) (v := ?_) (by rw [List.getElem?_toArray]; exact rfl) (by kernel_rfl) (by kernel_rfl) (by kernel_rfl) (by exact fun _ _ _ h => h) (Or.inl ⟨by rfl, (by intro W hSw; obtain ⟨⟨q0, q1, q2, q3, q4, q5, q6, q7, q8, q9, q10⟩, r0, r1, r2, r3, r4, r5, r6, r7, r8, r9, r10⟩ := hSw; go_simp <;> with_reducible rfl)⟩) (by assumption) ?_
              try simp only [Act.put, List.setIfInBounds_toArray, List.set_cons_zero, List.set_cons_succ]
              refine wpAnyH_take (i := 17) (v := ?_) (by rw [List.getElem?_toArray]; exact rfl) (by kernel_rfl) (by kernel_rfl) (by kernel_rfl) (by exact fun _ _ _ h => h) (Or.inl ⟨by rfl, (by intro W hSw; obtain ⟨⟨q0, q1, q2, q3, q4, q5, q6, q7, q8, q9, q10⟩, r0, r1, r2, r3, r4, r5, r6, r7, r8, r9, r10⟩ := hSw; go_simp <;> with_reducible rfl)⟩) (by assumption) ?_
              try simp only [Act.put, List.setIfInBounds_toArray, List.set_cons_zero, List.set_cons_succ]
              refine wpAnyH_take (i := 18) (v := ?_) (by rw [List.getElem?_toArray]; exact rfl) (by kernel_rfl) (by kernel_rfl) (by kernel_rfl) (by exact fun _ _ _ h => h) (Or.inl ⟨by rfl, (by intro W hSw; obtain ⟨⟨q0, q1, q2, q3, q4, q5, q6, q7, q8, q9, q10⟩, r0, r1, r2, r3, r4, r5, r6, r7, r8, r9, r10⟩ := hSw; go_simp <;> with_reducible rfl)⟩) (by assumption) ?_
              try simp only [Act.put, List.setIfInBounds_toArray, List.set_cons_zero, List.set_cons_succ]
              refine wpAnyH_take (i := 19) (v := ?_) (by rw [List.getElem?_toArray]; exact rfl) (by kernel_rfl) (by kernel_rfl) (by kernel_rfl) (by exact fun _ _ _ h => h) (Or.inl ⟨by rfl, (by intro W hSw; obtain ⟨⟨q0, q1, q2, q3, q4, q5, q6, q7, q8, q9, q10⟩, r0, r1, r2, r3, r4, r5, r6, r7, r8, r9, r10⟩ := hSw; go_simp <;> with_reducible rfl)⟩) (by assumption) ?_
              try simp only [Act.put, List.setIfInBounds_toArray, List.set_cons_zero, List.set_cons_succ]
              refine wpAnyH_take (i := 21) (v := ?_) (by rw [List.getElem?_toArray]; exact rfl) (by kernel_rfl) (by kernel_rfl) (by kernel_rfl) (by exact fun _ _ _ h => h) (Or.inl ⟨by rfl, (by intro W hSw; obtain ⟨⟨q0, q1, q2, q3, q4, q5, q6, q7, q8, q9, q10⟩, r0, r1, r2, r3, r4, r5, r6, r7, r8, r9, r10⟩ := hSw; go_simp <;> with_reducible rfl)⟩) (by assumption) ?_
              try simp only [Act.put, List.setIfInBounds_toArray, List.set_cons_zero, List.set_cons_succ]
              refine wpAnyH_take (i := 22) (v := ?_) (by rw [List.getElem?_toArray]; exact rfl) (by kernel_rfl) (by kernel_rfl) (by kernel_rfl) (by exact fun _ _ _ h => h) (Or.inl ⟨by rfl, (by intro W hSw; obtain ⟨⟨q0, q1, q2, q3, q4, q5, q6, q7, q8, q9, q10⟩, r0, r1, r2, r3, r4, r5, r6, r7, r8, r9, r10⟩ := hSw; go_simp <;> with_reducible rfl)⟩) (by assumption) ?_
              try simp only [Act.put, List.setIfInBounds_toArray, List.set_cons_zero, List.set_cons_succ]
              refine wpAnyH_ready (rs := [20]) (by kernel_rfl) (by simp) (AllReadyH.cons (by rw [List.getElem?_toArray]; exact rfl) (fun K9 hK9 => ?_) AllReadyH.nil)
              go_simp
              refine (cmpPdR (RA.out _ (KN.out.trans J1.out)) (RB.out _ (KN.out.trans J1.out)) HX.out).mono ?_
              rintro e9 t2 ⟨rfl, k1⟩
              have J2 := Lib.hid (J1.out.trans k1)
              clear k1
              refine hK9.out _ _ (HS.out _ J2.out) (fun hHeld2 => ?_)
              clear hK9 K9
              try simp only [Act.put, List.setIfInBounds_toArray, List.set_cons_zero, List.set_cons_succ]
              refine wpAnyH_ready (rs := [23]) (by kernel_rfl) (by simp) (AllReadyH.cons (by rw [List.getElem?_toArray]; exact rfl) (fun K9 hK9 => ?_) AllReadyH.nil)
              go_simp
              refine (cmpPdR (RB.out _ (KN.out.trans J2.out)) (RA.out _ (KN.out.trans J2.out)) HU.out).mono ?_
              rintro e9 t3 ⟨rfl, k1⟩
              have J3 := Lib.hid (J2.out.trans k1)
              clear k1
              refine hK9.out _ _ (HS.out _ J3.out) (fun hHeld3 => ?_)
              clear hK9 K9
              try simp only [Act.put, List.setIfInBounds_toArray, List.set_cons_zero, List.set_cons_succ]
              refine wpAnyH_take (i := 24) (v := ?_) (by rw [List.getElem?_toArray]; exact rfl) (by kernel_rfl) (by kernel_rfl) (by kernel_rfl) (by exact fun _ _ _ h => h) (Or.inl ⟨by rfl, (by intro W hSw; obtain ⟨⟨q0, q1, q2, q3, q4, q5, q6, q7, q8, q9, q10⟩, r0, r1, r2, r3, r4, r5, r6, r7, r8, r9, r10⟩ := hSw; go_simp <;> with_reducible rfl)⟩) (by assumption) ?_
              try simp only [Act.put, List.setIfInBounds_toArray, List.set_cons_zero, List.set_cons_succ]
              refine wpAnyH_take (i := 25) (v := ?_) (by rw [List.getElem?_toArray]; exact rfl) (by kernel_rfl) (by kernel_rfl) (by kernel_rfl) (by exact fun _ _ _ h => h) (Or.inl ⟨by rfl, (by intro W hSw; obtain ⟨⟨q0, q1, q2, q3, q4, q5, q6, q7, q8, q9, q10⟩, r0, r1, r2, r3, r4, r5, r6, r7, r8, r9, r10⟩ := hSw; go_simp <;> with_reducible rfl)⟩) (by assumption) ?_
              try simp only [Act.put, List.setIfInBounds_toArray, List.set_cons_zero, List.set_cons_succ]
              refine wpAnyH_take (i := 26) (v := ?_) (by rw [List.getElem?_toArray]; exact rfl) (by kernel_rfl) (by kernel_rfl) (by kernel_rfl) (by exact fun _ _ _ h => h) (Or.inl ⟨by rfl, (by intro W hSw; obtain ⟨⟨q0, q1, q2, q3, q4, q5, q6, q7, q8, q9, q10⟩, r0, r1, r2, r3, r4, r5, r6, r7, r8, r9, r10⟩ := hSw; go_simp <;> with_reducible rfl)⟩) (by assumption) ?_
              try simp only [Act.put, List.setIfInBounds_toArray, List.set_cons_zero, List.set_cons_succ]
              refine wpAnyH_take (i := 27) (v := ?_) (by rw [List.getElem?_toArray]; exact rfl) (by kernel_rfl) (by kernel_rfl) (by kernel_rfl) (by exact fun _ _ _ h => h) (Or.inl ⟨by rfl, (by intro W hSw; obtain ⟨⟨q0, q1, q2, q3, q4, q5, q6, q7, q8, q9, q10⟩, r0, r1, r2, r3, r4, r5, r6, r7, r8, r9, r10⟩ := hSw; go_simp <;> with_reducible rfl)⟩) (by assumption) ?_
              try simp only [Act.put, List.setIfInBounds_toArray, List.set_cons_zero, List.set_cons_succ]
              refine wpAnyH_done (by kernel_rfl) ?_ _
              go_wp2
              go_ret
              exact ⟨rfl, HK0.out.trans (KN.out.trans J3.out)⟩
            | false =>
              obtain rfl : e1 = false := by rw [hee]; rfl
              clear hee
              refine wp_region_held_drew (S := fun W => ((W.cell? ⟨w.heap.size, 0, none⟩ = some (.string a0) ∧ W.cell? ⟨w.heap.size, 1, none⟩ = some (.string a1) ∧ W.cell? ⟨w.heap.size, 2, none⟩ = some (.int .i64 a2) ∧ W.cell? ⟨w.heap.size, 3, none⟩ = some (va1) ∧ W.cell? ⟨w.heap.size, 4, none⟩ = some (va2) ∧ W.cell? ⟨w.heap.size, 5, none⟩ = some (va3) ∧ W.cell? ⟨w.heap.size, 6, none⟩ = some (va4) ∧ W.cell? ⟨w.heap.size, 7, none⟩ = some (.string a3) ∧ W.cell? ⟨w.heap.size, 8, none⟩ = some (.int .i64 a4) ∧ W.cell? ⟨w.heap.size, 9, none⟩ = some (.string a5) ∧ W.cell? ⟨w.heap.size, 10, none⟩ = some (.bool a6)) ∧ (W.cell? ⟨(w.heap.size + 1), 0, none⟩ = some (.string b0) ∧ W.cell? ⟨(w.heap.size + 1), 1, none⟩ = some (.string b1) ∧ W.cell? ⟨(w.heap.size + 1), 2, none⟩ = some (.int .i64 b2) ∧ W.cell? ⟨(w.heap.size + 1), 3, none⟩ = some (vb1) ∧ W.cell? ⟨(w.heap.size + 1), 4, none⟩ = some (vb2) ∧ W.cell? ⟨(w.heap.size + 1), 5, none⟩ = some (vb3) ∧ W.cell? ⟨(w.heap.size + 1), 6, none⟩ = some (vb4) ∧ W.cell? ⟨(w.heap.size + 1), 7, none⟩ = some (.string b3) ∧ W.cell? ⟨(w.heap.size + 1), 8, none⟩ = some (.int .i64 b4) ∧ W.cell? ⟨(w.heap.size + 1), 9, none⟩ = some (.string b5) ∧ W.cell? ⟨(w.heap.size + 1), 10, none⟩ = some (.bool b6)))) (by kernel_rfl) (HS.out _ (Kept.drew _)) (fun hHeld => ?_)
              refine wpAnyH_take (i := 0) (v := ?_) (by rw [List.getElem?_toArray]; exact rfl) (by kernel_rfl) (by kernel_rfl) (by kernel_rfl) (by exact fun _ _ _ h => h) (Or.inl ⟨by rfl, (by intro W hSw; obtain ⟨⟨q0, q1, q2, q3, q4, q5, q6, q7, q8, q9, q10⟩, r0, r1, r2, r3, r4, r5, r6, r7, r8, r9, r10⟩ := hSw; go_simp <;> with_reducible rfl)⟩) (by assumption) ?_
              try simp only [Act.put, List.setIfInBounds_toArray, List.set_cons_zero, List.set_cons_succ]
              refine wpAnyH_take (i := 1) (v := ?_) (by rw [List.getElem?_toArray]; exact rfl) (by kernel_rfl) (by kernel_rfl) (by kernel_rfl) (by exact fun _ _ _ h => h) (Or.inl ⟨by rfl, (by intro W hSw; obtain ⟨⟨q0, q1, q2, q3, q4, q5, q6, q7, q8, q9, q10⟩, r0, r1, r2, r3, r4, r5, r6, r7, r8, r9, r10⟩ := hSw; go_simp <;> with_reducible rfl)⟩) (by assumption) ?_
              try simp only [Act.put, List.setIfInBounds_toArray, List.set_cons_zero, List.set_cons_succ]
              refine wpAnyH_take (i := 4) (v := ?_) (by rw [List.getElem?_toArray]; exact rfl) (by kernel_rfl) (by kernel_rfl) (by kernel_rfl) (by exact fun _ _ _ h => h) (Or.inl ⟨by rfl, (by intro W hSw; obtain ⟨⟨q0, q1, q2, q3, q4, q5, q6, q7, q8, q9, q10⟩, r0, r1, r2, r3, r4, r5, r6, r7, r8, r9, r10⟩ := hSw; go_simp <;> with_reducible rfl)⟩) (by assumption) ?_
              try simp only [Act.put, List.setIfInBounds_toArray, List.set_cons_zero, List.set_cons_succ]
              refine wpAnyH_take (i := 5) (v := ?_) (by rw [List.getElem?_toArray]; exact rfl) (by kernel_rfl) (by kernel_rfl) (by kernel_rfl) (by exact fun _ _ _ h => h) (Or.inl ⟨by rfl, (by intro W hSw; obtain ⟨⟨q0, q1, q2, q3, q4, q5, q6, q7, q8, q9, q10⟩, r0, r1, r2, r3, r4, r5, r6, r7, r8, r9, r10⟩ := hSw; go_simp <;> with_reducible rfl)⟩) (by assumption) ?_
              try simp only [Act.put, List.setIfInBounds_toArray, List.set_cons_zero, List.set_cons_succ]
              refine wpAnyH_take (i := 6) (v := ?_) (by rw [List.getElem?_toArray]; exact rfl) (by kernel_rfl) (by kernel_rfl) (by kernel_rfl) (by exact fun _ _ _ h => h) (Or.inl ⟨by rfl, (by intro W hSw; obtain ⟨⟨q0, q1, q2, q3, q4, q5, q6, q7, q8, q9, q10⟩, r0, r1, r2, r3, r4, r5, r6, r7, r8, r9, r10⟩ := hSw; go_simp <;> with_reducible rfl)⟩) (by assumption) ?_
              try simp only [Act.put, List.setIfInBounds_toArray, List.set_cons_zero, List.set_cons_succ]
              refine wpAnyH_take (i := 7) (v := ?_) (by rw [List.getElem?_toArray]; exact rfl) (by kernel_rfl) (by kernel_rfl) (by kernel_rfl) (by exact fun _ _ _ h => h) (Or.inl ⟨by rfl, (by intro W hSw; obtain ⟨⟨q0, q1, q2, q3, q4, q5, q6, q7, q8, q9, q10⟩, r0, r1, r2, r3, r4, r5, r6, r7, r8, r9, r10⟩ := hSw; go_simp <;> with_reducible rfl)⟩) (by assumption) ?_
              try simp only [Act.put, List.setIfInBounds_toArray, List.set_cons_zero, List.set_cons_succ]
              refine wpAnyH_take (i := 8) (v := ?_) (by rw [List.getElem?_toArray]; exact rfl) (by kernel_rfl) (by kernel_rfl) (by kernel_rfl) (by exact fun _ _ _ h => h) (Or.inl ⟨by rfl, (by intro W hSw; obtain ⟨⟨q0, q1, q2, q3, q4, q5, q6, q7, q8, q9, q10⟩, r0, r1, r2, r3, r4, r5, r6, r7, r8, r9, r10⟩ := hSw; go_simp <;> with_reducible rfl)⟩) (by assumption) ?_
              try simp only [Act.put, List.setIfInBounds_toArray, List.set_cons_zero, List.set_cons_succ]
              refine wpAnyH_ready (rs := [2]) (by kernel_rfl) (by simp) (AllReadyH.cons (by rw [List.getElem?_toArray]; exact rfl) (fun K9 hK9 => ?_) AllReadyH.nil)
              go_simp
              refine (cmpPdR (RA.out _ (KN.out.trans (Kept.drew _))) (RB.out _ (KN.out.trans (Kept.drew _))) HX.out).mono ?_
              rintro e9 t4 ⟨rfl, k1⟩
              have J1 := Lib.hid ((Kept.drew _).trans k1)
              clear k1
              refine hK9.out _ _ (HS.out _ J1.out) (fun hHeld4 => ?_)
              clear hK9 K9
              try simp only [Act.put, List.setIfInBounds_toArray, List.set_cons_zero, List.set_cons_succ]
              refine wpAnyH_take (i := 3) (v := ?_) (by rw [List.getElem?_toArray]; exact rfl) (by kernel_rfl) (by kernel_rfl) (by kernel_rfl) (by exact fun _ _ _ h => h) (Or.inl ⟨by rfl, (by intro W hSw; obtain ⟨⟨q0, q1, q2, q3, q4, q5, q6, q7, q8, q9, q10⟩, r0, r1, r2, r3, r4, r5, r6, r7, r8, r9, r10⟩ := hSw; go_simp <;> with_reducible rfl)⟩) (by assumption) ?_
              try simp only [Act.put, List.setIfInBounds_toArray, List.set_cons_zero, List.set_cons_succ]
              refine wpAnyH_take (i := 9) (v := ?_) (by rw [List.getElem?_toArray]; exact rfl) (by kernel_rfl) (by kernel_rfl) (by kernel_rfl) (by exact fun _ _ _ h => h) (Or.inl ⟨by rfl, (by intro W hSw; obtain ⟨⟨q0, q1, q2, q3, q4, q5, q6, q7, q8, q9, q10⟩, r0, r1, r2, r3, r4, r5, r6, r7, r8, r9, r10⟩ := hSw; go_simp <;> with_reducible rfl)⟩) (by assumption) ?_
              try simp only [Act.put, List.setIfInBounds_toArray, List.set_cons_zero, List.set_cons_succ]
              refine wpAnyH_take (i := 10) (v := ?_) (by rw [List.getElem?_toArray]; exact rfl) (by kernel_rfl) (by kernel_rfl) (by kernel_rfl) (by exact fun _ _ _ h => h) (Or.inl ⟨by rfl, (by intro W hSw; obtain ⟨⟨q0, q1, q2, q3, q4, q5, q6, q7, q8, q9, q10⟩, r0, r1, r2, r3, r4, r5, r6, r7, r8, r9, r10⟩ := hSw; go_simp <;> with_reducible rfl)⟩) (by assumption) ?_
              try simp only [Act.put, List.setIfInBounds_toArray, List.set_cons_zero, List.set_cons_succ]
              refine wpAnyH_take (i := 11) (v := ?_) (by rw [List.getElem?_toArray]; exact rfl) (by kernel_rfl) (by kernel_rfl) (by kernel_rfl) (by exact fun _ _ _ h => h) (Or.inl ⟨by rfl, (by intro W hSw; obtain ⟨⟨q0, q1, q2, q3, q4, q5, q6, q7, q8, q9, q10⟩, r0, r1, r2, r3, r4, r5, r6, r7, r8, r9, r10⟩ := hSw; go_simp <;> with_reducible rfl)⟩) (by assumption) ?_
              try simp only [Act.put, List.setIfInBounds_toArray, List.set_cons_zero, List.set_cons_succ]
              refine wpAnyH_take (i := 12) (v := ?_) (by rw [List.getElem?_toArray]; exact rfl) (by kernel_rfl) (by kernel_rfl) (by kernel_rfl) (by exact fun _ _ _ h => h) (Or.inl ⟨by rfl, (by intro W hSw; obtain ⟨⟨q0, q1, q2, q3, q4, q5, q6, q7, q8, q9, q10⟩, r0, r1, r2, r3, r4, r5, r6, r7, r8, r9, r10⟩ := hSw; go_simp <;> with_reducible rfl)⟩) (by assumption) ?_
              try simp only [Act.put, List.setIfInBounds_toArray, List.set_cons_zero, List.set_cons_succ]
              refine wpAnyH_take (i := 13) (v := ?_) (by rw [List.getElem?_toArray]; exact rfl) (by kernel_rfl) (by kernel_rfl) (by kernel_rfl) (by exact fun _ _ _ h => h) (Or.inl ⟨by rfl, (by intro W hSw; obtain ⟨⟨q0, q1, q2, q3, q4, q5, q6, q7, q8, q9, q10⟩, r0, r1, r2, r3, r4, r5, r6, r7, r8, r9, r10⟩ := hSw; go_simp <;> with_reducible rfl)⟩) (by assumption) ?_
              try simp only [Act.put, List.setIfInBounds_toArray, List.set_cons_zero, List.set_cons_succ]
              refine wpAnyH_take (i := 14) (v := ?_) (by rw [List.getElem?_toArray]; exact rfl) (by kernel_rfl) (by kernel_rfl) (by kernel_rfl) (by exact fun _ _ _ h => h) (Or.inl ⟨by rfl, (by intro W hSw; obtain ⟨⟨q0, q1, q2, q3, q4, q5, q6, q7, q8, q9, q10⟩, r0, r1, r2, r3, r4, r5, r6, r7, r8, r9, r10⟩ := hSw; go_simp <;> with_reducible rfl)⟩) (by assumption) ?_
              try simp only [Act.put, List.setIfInBounds_toArray, List.set_cons_zero, List.set_cons_succ]
              refine wpAnyH_take (i := 15) (v := ?_) (by rw [List.getElem?_toArray]; exact rfl) (by kernel_rfl) (by kernel_rfl) (by kernel_rfl) (by exact fun _ _ _ h => h) (Or.inl ⟨by rfl, (by intro W hSw; obtain ⟨⟨q0, q1, q2, q3, q4, q5, q6, q7, q8, q9, q10⟩, r0, r1, r2, r3, r4, r5, r6, r7, r8, r9, r10⟩ := hSw; go_simp <;> with_reducible rfl)⟩) (by assumption) ?_
              try simp only [Act.put, List.setIfInBounds_toArray, List.set_cons_zero, List.set_cons_succ]
              refine wpAnyH_take (i := 16) (v := ?_) (by rw [List.getElem?_toArray]; exact rfl) (by kernel_rfl) (by kernel_rfl) (by kernel_rfl) (by exact fun _ _ _ h => h) (Or.inl ⟨by rfl, (by intro W hSw; obtain ⟨⟨q0, q1, q2, q3, q4, q5, q6, q7, q8, q9, q10⟩, r0, r1, r2, r3, r4, r5, r6, r7, r8, r9, r10⟩ := hSw; go_simp <;> with_reducible rfl)⟩) (by assumption) ?_
              try simp only [Act.put, List.setIfInBounds_toArray, List.set_cons_zero, List.set_cons_succ]
              refine wpAnyH_take (i := 17) (v := ?_) (by rw [List.getElem?_toArray]; exact rfl) (by kernel_rfl) (by kernel_rfl) (by kernel_rfl) (by exact fun _ _ _ h => h) (Or.inl ⟨by rfl, (by intro W hSw; obtain ⟨⟨q0, q1, q2, q3, q4, q5, q6, q7, q8, q9, q10⟩, r0, r1, r2, r3, r4, r5, r6, r7, r8, r9, r10⟩ := hSw; go_simp <;> with_reducible rfl)⟩) (by assumption) ?_
              try simp only [Act.put, List.setIfInBounds_toArray, List.set_cons_zero, List.set_cons_succ]
              refine wpAnyH_take (i := 18) (v := ?_) (by rw [List.getElem?_toArray]; exact rfl) (by kernel_rfl) (by kernel_rfl) (by kernel_rfl) (by exact fun _ _ _ h => h) (Or.inl ⟨by rfl, (by intro W hSw; obtain ⟨⟨q0, q1, q2, q3, q4, q5, q6, q7, q8, q9, q10⟩, r0, r1, r2, r3, r4, r5, r6, r7, r8, r9, r10⟩ := hSw; go_simp <;> with_reducible rfl)⟩) (by assumption) ?_
              try simp only [Act.put, List.setIfInBounds_toArray, List.set_cons_zero, List.set_cons_succ]
              refine wpAnyH_take (i := 19) (v := ?_) (by rw [List.getElem?_toArray]; exact rfl) (by kernel_rfl) (by kernel_rfl) (by kernel_rfl) (by exact fun _ _ _ h => h) (Or.inl ⟨by rfl, (by intro W hSw; obtain ⟨⟨q0, q1, q2, q3, q4, q5, q6, q7, q8, q9, q10⟩, r0, r1, r2, r3, r4, r5, r6, r7, r8, r9, r10⟩ := hSw; go_simp <;> with_reducible rfl)⟩) (by assumption) ?_
              try simp only [Act.put, List.setIfInBounds_toArray, List.set_cons_zero, List.set_cons_succ]
              refine wpAnyH_take (i := 21) (v := ?_) (by rw [List.getElem?_toArray]; exact rfl) (by kernel_rfl) (by kernel_rfl) (by kernel_rfl) (by exact fun _ _ _ h => h) (Or.inl ⟨by rfl, (by intro W hSw; obtain ⟨⟨q0, q1, q2, q3, q4, q5, q6, q7, q8, q9, q10⟩, r0, r1, r2, r3, r4, r5, r6, r7, r8, r9, r10⟩ := hSw; go_simp <;> with_reducible rfl)⟩) (by assumption) ?_
              try simp only [Act.put, List.setIfInBounds_toArray, List.set_cons_zero, List.set_cons_succ]
              refine wpAnyH_take (i := 22) (v := ?_) (by rw [List.getElem?_toArray]; exact rfl) (by kernel_rfl) (by kernel_rfl) (by kernel_rfl) (by exact fun _ _ _ h => h) (Or.inl ⟨by rfl, (by intro W hSw; obtain ⟨⟨q0, q1, q2, q3, q4, q5, q6, q7, q8, q9, q10⟩, r0, r1, r2, r3, r4, r5, r6, r7, r8, r9, r10⟩ := hSw; go_simp <;> with_reducible rfl)⟩) (by assumption) ?_
              try simp only [Act.put, List.setIfInBounds_toArray, List.set_cons_zero, List.set_cons_succ]
              refine wpAnyH_ready (rs := [20]) (by kernel_rfl) (by simp) (AllReadyH.cons (by rw [List.getElem?_toArray]; exact rfl) (fun K9 hK9 => ?_) AllReadyH.nil)
              go_simp
              refine (cmpPdR (RA.out _ (KN.out.trans J1.out)) (RB.out _ (KN.out.trans J1.out)) HX.out).mono ?_
              rintro e9 t5 ⟨rfl, k1⟩
              have J2 := Lib.hid (J1.out.trans k1)
              clear k1
              refine hK9.out _ _ (HS.out _ J2.out) (fun hHeld5 => ?_)
              clear hK9 K9
              try simp only [Act.put, List.setIfInBounds_toArray, List.set_cons_zero, List.set_cons_succ]
              refine wpAnyH_ready (rs := [23]) (by kernel_rfl) (by simp) (AllReadyH.cons (by rw [List.getElem?_toArray]; exact rfl) (fun K9 hK9 => ?_) AllReadyH.nil)
              go_simp
              refine (cmpPdR (RB.out _ (KN.out.trans J2.out)) (RA.out _ (KN.out.trans J2.out)) HU.out).mono ?_
              rintro e9 t6 ⟨rfl, k1⟩
              have J3 := Lib.hid (J2.out.trans k1)
              clear k1
              refine hK9.out _ _ (HS.out _ J3.out) (fun hHeld6 => ?_)
              clear hK9 K9
              try simp only [Act.put, List.setIfInBounds_toArray, List.set_cons_zero, List.set_cons_succ]
              refine wpAnyH_take (i := 24) (v := ?_) (by rw [List.getElem?_toArray]; exact rfl) (by kernel_rfl) (by kernel_rfl) (by kernel_rfl) (by exact fun _ _ _ h => h) (Or.inl ⟨by rfl, (by intro W hSw; obtain ⟨⟨q0, q1, q2, q3, q4, q5, q6, q7, q8, q9, q10⟩, r0, r1, r2, r3, r4, r5, r6, r7, r8, r9, r10⟩ := hSw; go_simp <;> with_reducible rfl)⟩) (by assumption) ?_
              try simp only [Act.put, List.setIfInBounds_toArray, List.set_cons_zero, List.set_cons_succ]
              refine wpAnyH_take (i := 25) (v := ?_) (by rw [List.getElem?_toArray]; exact rfl) (by kernel_rfl) (by kernel_rfl) (by kernel_rfl) (by exact fun _ _ _ h => h) (Or.inl ⟨by rfl, (by intro W hSw; obtain ⟨⟨q0, q1, q2, q3, q4, q5, q6, q7, q8, q9, q10⟩, r0, r1, r2, r3, r4, r5, r6, r7, r8, r9, r10⟩ := hSw; go_simp <;> with_reducible rfl)⟩) (by assumption) ?_
              try simp only [Act.put, List.setIfInBounds_toArray, List.set_cons_zero, List.set_cons_succ]
              refine wpAnyH_take (i := 26) (v := ?_) (by rw [List.getElem?_toArray]; exact rfl) (by kernel_rfl) (by kernel_rfl) (by kernel_rfl) (by exact fun _ _ _ h => h) (Or.inl ⟨by rfl, (by intro W hSw; obtain ⟨⟨q0, q1, q2, q3, q4, q5, q6, q7, q8, q9, q10⟩, r0, r1, r2, r3, r4, r5, r6, r7, r8, r9, r10⟩ := hSw; go_simp <;> with_reducible rfl)⟩) (by assumption) ?_
              try simp only [Act.put, List.setIfInBounds_toArray, List.set_cons_zero, List.set_cons_succ]
              refine wpAnyH_take (i := 27) (v := ?_) (by rw [List.getElem?_toArray]; exact rfl) (by kernel_rfl) (by kernel_rfl) (by kernel_rfl) (by exact fun _ _ _ h => h) (Or.inl ⟨by rfl, (by intro W hSw; obtain ⟨⟨q0, q1, q2, q3, q4, q5, q6, q7, q8, q9, q10⟩, r0, r1, r2, r3, r4, r5, r6, r7, r8, r9, r10⟩ := hSw; go_simp <;> with_reducible rfl)⟩) (by assumption) ?_
              try simp only [Act.put, List.setIfInBounds_toArray, List.set_cons_zero, List.set_cons_succ]
              refine wpAnyH_done (by kernel_rfl) ?_ _
              go_wp2
              go_ret
              exact ⟨rfl, HK0.out.trans (KN.out.trans J3.out)⟩
          | false =>
            obtain rfl : e1 = false := by rw [hee]; rfl
            clear hee he3'
            refine wp_region_held_drew (S := fun W => ((W.cell? ⟨w.heap.size, 0, none⟩ = some (.string a0) ∧ W.cell? ⟨w.heap.size, 1, none⟩ = some (.string a1) ∧ W.cell? ⟨w.heap.size, 2, none⟩ = some (.int .i64 a2) ∧ W.cell? ⟨w.heap.size, 3, none⟩ = some (va1) ∧ W.cell? ⟨w.heap.size, 4, none⟩ = some (va2) ∧ W.cell? ⟨w.heap.size, 5, none⟩ = some (va3) ∧ W.cell? ⟨w.heap.size, 6, none⟩ = some (va4) ∧ W.cell? ⟨w.heap.size, 7, none⟩ = some (.string a3) ∧ W.cell? ⟨w.heap.size, 8, none⟩ = some (.int .i64 a4) ∧ W.cell? ⟨w.heap.size, 9, none⟩ = some (.string a5) ∧ W.cell? ⟨w.heap.size, 10, none⟩ = some (.bool a6)) ∧ (W.cell? ⟨(w.heap.size + 1), 0, none⟩ = some (.string b0) ∧ W.cell? ⟨(w.heap.size + 1), 1, none⟩ = some (.string b1) ∧ W.cell? ⟨(w.heap.size + 1), 2, none⟩ = some (.int .i64 b2) ∧ W.cell? ⟨(w.heap.size + 1), 3, none⟩ = some (vb1) ∧ W.cell? ⟨(w.heap.size + 1), 4, none⟩ = some (vb2) ∧ W.cell? ⟨(w.heap.size + 1), 5, none⟩ = some (vb3) ∧ W.cell? ⟨(w.heap.size + 1), 6, none⟩ = some (vb4) ∧ W.cell? ⟨(w.heap.size + 1), 7, none⟩ = some (.string b3) ∧ W.cell? ⟨(w.heap.size + 1), 8, none⟩ = some (.int .i64 b4) ∧ W.cell? ⟨(w.heap.size + 1), 9, none⟩ = some (.string b5) ∧ W.cell? ⟨(w.heap.size + 1), 10, none⟩ = some (.bool b6)))) (by kernel_rfl) (HS.out _ (Kept.drew _)) (fun hHeld => ?_)
            refine wpAnyH_take (i := 0) (v := ?_) (by rw [List.getElem?_toArray]; exact rfl) (by kernel_rfl) (by kernel_rfl) (by kernel_rfl) (by exact fun _ _ _ h => h) (Or.inl ⟨by rfl, (by intro W hSw; obtain ⟨⟨q0, q1, q2, q3, q4, q5, q6, q7, q8, q9, q10⟩, r0, r1, r2, r3, r4, r5, r6, r7, r8, r9, r10⟩ := hSw; go_simp <;> with_reducible rfl)⟩) (by assumption) ?_
            try simp only [Act.put, List.setIfInBounds_toArray, List.set_cons_zero, List.set_cons_succ]
            refine wpAnyH_take (i := 1) (v := ?_) (by rw [List.getElem?_toArray]; exact rfl) (by kernel_rfl) (by kernel_rfl) (by kernel_rfl) (by exact fun _ _ _ h => h) (Or.inl ⟨by rfl, (by intro W hSw; obtain ⟨⟨q0, q1, q2, q3, q4, q5, q6, q7, q8, q9, q10⟩, r0, r1, r2, r3, r4, r5, r6, r7, r8, r9, r10⟩ := hSw; go_simp <;> with_reducible rfl)⟩) (by assumption) ?_
            try simp only [Act.put, List.setIfInBounds_toArray, List.set_cons_zero, List.set_cons_succ]
            refine wpAnyH_take (i := 4) (v := ?_) (by rw [List.getElem?_toArray]; exact rfl) (by kernel_rfl) (by kernel_rfl) (by kernel_rfl) (by exact fun _ _ _ h => h) (Or.inl ⟨by rfl, (by intro W hSw; obtain ⟨⟨q0, q1, q2, q3, q4, q5, q6, q7, q8, q9, q10⟩, r0, r1, r2, r3, r4, r5, r6, r7, r8, r9, r10⟩ := hSw; go_simp <;> with_reducible rfl)⟩) (by assumption) ?_
            try simp only [Act.put, List.setIfInBounds_toArray, List.set_cons_zero, List.set_cons_succ]
            refine wpAnyH_take (i := 5) (v := ?_) (by rw [List.getElem?_toArray]; exact rfl) (by kernel_rfl) (by kernel_rfl) (by kernel_rfl) (by exact fun _ _ _ h => h) (Or.inl ⟨by rfl, (by intro W hSw; obtain ⟨⟨q0, q1, q2, q3, q4, q5, q6, q7, q8, q9, q10⟩, r0, r1, r2, r3, r4, r5, r6, r7, r8, r9, r10⟩ := hSw; go_simp <;> with_reducible rfl)⟩) (by assumption) ?_
            try simp only [Act.put, List.setIfInBounds_toArray, List.set_cons_zero, List.set_cons_succ]
            refine wpAnyH_take (i := 6) (v := ?_) (by rw [List.getElem?_toArray]; exact rfl) (by kernel_rfl) (by kernel_rfl) (by kernel_rfl) (by exact fun _ _ _ h => h) (Or.inl ⟨by rfl, (by intro W hSw; obtain ⟨⟨q0, q1, q2, q3, q4, q5, q6, q7, q8, q9, q10⟩, r0, r1, r2, r3, r4, r5, r6, r7, r8, r9, r10⟩ := hSw; go_simp <;> with_reducible rfl)⟩) (by assumption) ?_
            try simp only [Act.put, List.setIfInBounds_toArray, List.set_cons_zero, List.set_cons_succ]
            refine wpAnyH_take (i := 7) (v := ?_) (by rw [List.getElem?_toArray]; exact rfl) (by kernel_rfl) (by kernel_rfl) (by kernel_rfl) (by exact fun _ _ _ h => h) (Or.inl ⟨by rfl, (by intro W hSw; obtain ⟨⟨q0, q1, q2, q3, q4, q5, q6, q7, q8, q9, q10⟩, r0, r1, r2, r3, r4, r5, r6, r7, r8, r9, r10⟩ := hSw; go_simp <;> with_reducible rfl)⟩) (by assumption) ?_
            try simp only [Act.put, List.setIfInBounds_toArray, List.set_cons_zero, List.set_cons_succ]
            refine wpAnyH_take (i := 8) (v := ?_) (by rw [List.getElem?_toArray]; exact rfl) (by kernel_rfl) (by kernel_rfl) (by kernel_rfl) (by exact fun _ _ _ h => h) (Or.inl ⟨by rfl, (by intro W hSw; obtain ⟨⟨q0, q1, q2, q3, q4, q5, q6, q7, q8, q9, q10⟩, r0, r1, r2, r3, r4, r5, r6, r7, r8, r9, r10⟩ := hSw; go_simp <;> with_reducible rfl)⟩) (by assumption) ?_
            try simp only [Act.put, List.setIfInBounds_toArray, List.set_cons_zero, List.set_cons_succ]
            refine wpAnyH_ready (rs := [2]) (by kernel_rfl) (by simp) (AllReadyH.cons (by rw [List.getElem?_toArray]; exact rfl) (fun K9 hK9 => ?_) AllReadyH.nil)
            go_simp
            refine (cmpPdR (RA.out _ (KN.out.trans (Kept.drew _))) (RB.out _ (KN.out.trans (Kept.drew _))) HX.out).mono ?_
            rintro e9 t7 ⟨rfl, k1⟩
            have J1 := Lib.hid ((Kept.drew _).trans k1)
            clear k1
            refine hK9.out _ _ (HS.out _ J1.out) (fun hHeld7 => ?_)
            clear hK9 K9
            try simp only [Act.put, List.setIfInBounds_toArray, List.set_cons_zero, List.set_cons_succ]
            refine wpAnyH_take (i := 3) (v := ?_) (by rw [List.getElem?_toArray]; exact rfl) (by kernel_rfl) (by kernel_rfl) (by kernel_rfl) (by exact fun _ _ _ h => h) (Or.inl ⟨by rfl, (by intro W hSw; obtain ⟨⟨q0, q1, q2, q3, q4, q5, q6, q7, q8, q9, q10⟩, r0, r1, r2, r3, r4, r5, r6, r7, r8, r9, r10⟩ := hSw; go_simp <;> with_reducible rfl)⟩) (by assumption) ?_
            try simp only [Act.put, List.setIfInBounds_toArray, List.set_cons_zero, List.set_cons_succ]
            refine wpAnyH_take (i := 9) (v := ?_) (by rw [List.getElem?_toArray]; exact rfl) (by kernel_rfl) (by kernel_rfl) (by kernel_rfl) (by exact fun _ _ _ h => h) (Or.inl ⟨by rfl, (by intro W hSw; obtain ⟨⟨q0, q1, q2, q3, q4, q5, q6, q7, q8, q9, q10⟩, r0, r1, r2, r3, r4, r5, r6, r7, r8, r9, r10⟩ := hSw; go_simp <;> with_reducible rfl)⟩) (by assumption) ?_
            try simp only [Act.put, List.setIfInBounds_toArray, List.set_cons_zero, List.set_cons_succ]
            refine wpAnyH_take (i := 10) (v := undef) (by rw [List.getElem?_toArray]; exact rfl) (by kernel_rfl) (by kernel_rfl) (by kernel_rfl) (by exact fun _ _ _ h => h) (Or.inr ⟨by rfl, rfl⟩) (by assumption) ?_
            try simp only [Act.put, List.setIfInBounds_toArray, List.set_cons_zero, List.set_cons_succ]
            refine wpAnyH_take (i := 11) (v := undef) (by rw [List.getElem?_toArray]; exact rfl) (by kernel_rfl) (by kernel_rfl) (by kernel_rfl) (by exact fun _ _ _ h => h) (Or.inr ⟨by rfl, rfl⟩) (by assumption) ?_
            try simp only [Act.put, List.setIfInBounds_toArray, List.set_cons_zero, List.set_cons_succ]
            refine wpAnyH_take (i := 12) (v := undef) (by rw [List.getElem?_toArray]; exact rfl) (by kernel_rfl) (by kernel_rfl) (by kernel_rfl) (by exact fun _ _ _ h => h) (Or.inr ⟨by rfl, rfl⟩) (by assumption) ?_
            try simp only [Act.put, List.setIfInBounds_toArray, List.set_cons_zero, List.set_cons_succ]
            refine wpAnyH_take (i := 13) (v := undef) (by rw [List.getElem?_toArray]; exact rfl) (by kernel_rfl) (by kernel_rfl) (by kernel_rfl) (by exact fun _ _ _ h => h) (Or.inr ⟨by rfl, rfl⟩) (by assumption) ?_
            try simp only [Act.put, List.setIfInBounds_toArray, List.set_cons_zero, List.set_cons_succ]
            refine wpAnyH_take (i := 14) (v := undef) (by rw [List.getElem?_toArray]; exact rfl) (by kernel_rfl) (by kernel_rfl) (by kernel_rfl) (by exact fun _ _ _ h => h) (Or.inr ⟨by rfl, rfl⟩) (by assumption) ?_
            try simp only [Act.put, List.setIfInBounds_toArray, List.set_cons_zero, List.set_cons_succ]
            refine wpAnyH_take (i := 15) (v := ?_) (by rw [List.getElem?_toArray]; exact rfl) (by kernel_rfl) (by kernel_rfl) (by kernel_rfl) (by exact fun _ _ _ h => h) (Or.inl ⟨by rfl, (by intro W hSw; obtain ⟨⟨q0, q1, q2, q3, q4, q5, q6, q7, q8, q9, q10⟩, r0, r1, r2, r3, r4, r5, r6, r7, r8, r9, r10⟩ := hSw; go_simp <;> with_reducible rfl)⟩) (by assumption) ?_
            try simp only [Act.put, List.setIfInBounds_toArray, List.set_cons_zero, List.set_cons_succ]
            refine wpAnyH_take (i := 16) (v := ?_) (by rw [List.getElem?_toArray]; exact rfl) (by kernel_rfl) (by kernel_rfl) (by kernel_rfl) (by exact fun _ _ _ h => h) (Or.inl ⟨by rfl, (by intro W hSw; obtain ⟨⟨q0, q1, q2, q3, q4, q5, q6, q7, q8, q9, q10⟩, r0, r1, r2, r3, r4, r5, r6, r7, r8, r9, r10⟩ := hSw; go_simp <;> with_reducible rfl)⟩) (by assumption) ?_
            try simp only [Act.put, List.setIfInBounds_toArray, List.set_cons_zero, List.set_cons_succ]
            refine wpAnyH_take (i := 17) (v := ?_) (by rw [List.getElem?_toArray]; exact rfl) (by kernel_rfl) (by kernel_rfl) (by kernel_rfl) (by exact fun _ _ _ h => h) (Or.inl ⟨by rfl, (by intro W hSw; obtain ⟨⟨q0, q1, q2, q3, q4, q5, q6, q7, q8, q9, q10⟩, r0, r1, r2, r3, r4, r5, r6, r7, r8, r9, r10⟩ := hSw; go_simp <;> with_reducible rfl)⟩) (by assumption) ?_
            try simp only [Act.put, List.setIfInBounds_toArray, List.set_cons_zero, List.set_cons_succ]
            refine wpAnyH_take (i := 18) (v := ?_) (by rw [List.getElem?_toArray]; exact rfl) (by kernel_rfl) (by kernel_rfl) (by kernel_rfl) (by exact fun _ _ _ h => h) (Or.inl ⟨by rfl, (by intro W hSw; obtain ⟨⟨q0, q1, q2, q3, q4, q5, q6, q7, q8, q9, q10⟩, r0, r1, r2, r3, r4, r5, r6, r7, r8, r9, r10⟩ := hSw; go_simp <;> with_reducible rfl)⟩) (by assumption) ?_
            try simp only [Act.put, List.setIfInBounds_toArray, List.set_cons_zero, List.set_cons_succ]
            refine wpAnyH_take (i := 19) (v := ?_) (by rw [List.getElem?_toArray]; exact rfl) (by kernel_rfl) (by kernel_rfl) (by kernel_rfl) (by exact fun _ _ _ h => h) (Or.inl ⟨by rfl, (by intro W hSw; obtain ⟨⟨q0, q1, q2, q3, q4, q5, q6, q7, q8, q9, q10⟩, r0, r1, r2, r3, r4, r5, r6, r7, r8, r9, r10⟩ := hSw; go_simp <;> with_reducible rfl)⟩) (by assumption) ?_
            try simp only [Act.put, List.setIfInBounds_toArray, List.set_cons_zero, List.set_cons_succ]
            refine wpAnyH_take (i := 21) (v := ?_) (by rw [List.getElem?_toArray]; exact rfl) (by kernel_rfl) (by kernel_rfl) (by kernel_rfl) (by exact fun _ _ _ h => h) (Or.inl ⟨by rfl, (by intro W hSw; obtain ⟨⟨q0, q1, q2, q3, q4, q5, q6, q7, q8, q9, q10⟩, r0, r1, r2, r3, r4, r5, r6, r7, r8, r9, r10⟩ := hSw; go_simp <;> with_reducible rfl)⟩) (by assumption) ?_
            try simp only [Act.put, List.setIfInBounds_toArray, List.set_cons_zero, List.set_cons_succ]
            refine wpAnyH_take (i := 22) (v := ?_) (by rw [List.getElem?_toArray]; exact rfl) (by kernel_rfl) (by kernel_rfl) (by kernel_rfl) (by exact fun _ _ _ h => h) (Or.inl ⟨by rfl, (by intro W hSw; obtain ⟨⟨q0, q1, q2, q3, q4, q5, q6, q7, q8, q9, q10⟩, r0, r1, r2, r3, r4, r5, r6, r7, r8, r9, r10⟩ := hSw; go_simp <;> with_reducible rfl)⟩) (by assumption) ?_
            try simp only [Act.put, List.setIfInBounds_toArray, List.set_cons_zero, List.set_cons_succ]
            refine wpAnyH_ready (rs := [20]) (by kernel_rfl) (by simp) (AllReadyH.cons (by rw [List.getElem?_toArray]; exact rfl) (fun K9 hK9 => ?_) AllReadyH.nil)
            go_simp
            refine (cmpPdR (RA.out _ (KN.out.trans J1.out)) (RB.out _ (KN.out.trans J1.out)) HX.out).mono ?_
            rintro e9 t8 ⟨rfl, k1⟩
            have J2 := Lib.hid (J1.out.trans k1)
            clear k1
            refine hK9.out _ _ (HS.out _ J2.out) (fun hHeld8 => ?_)
            clear hK9 K9
            try simp only [Act.put, List.setIfInBounds_toArray, List.set_cons_zero, List.set_cons_succ]
            refine wpAnyH_ready (rs := [23]) (by kernel_rfl) (by simp) (AllReadyH.cons (by rw [List.getElem?_toArray]; exact rfl) (fun K9 hK9 => ?_) AllReadyH.nil)
            go_simp
            refine (cmpPdR (RB.out _ (KN.out.trans J2.out)) (RA.out _ (KN.out.trans J2.out)) HU.out).mono ?_
            rintro e9 t9 ⟨rfl, k1⟩
            have J3 := Lib.hid (J2.out.trans k1)
            clear k1
            refine hK9.out _ _ (HS.out _ J3.out) (fun hHeld9 => ?_)
            clear hK9 K9
            try simp only [Act.put, List.setIfInBounds_toArray, List.set_cons_zero, List.set_cons_succ]
            refine wpAnyH_take (i := 24) (v := ?_) (by rw [List.getElem?_toArray]; exact rfl) (by kernel_rfl) (by kernel_rfl) (by kernel_rfl) (by exact fun _ _ _ h => h) (Or.inl ⟨by rfl, (by intro W hSw; obtain ⟨⟨q0, q1, q2, q3, q4, q5, q6, q7, q8, q9, q10⟩, r0, r1, r2, r3, r4, r5, r6, r7, r8, r9, r10⟩ := hSw; go_simp <;> with_reducible rfl)⟩) (by assumption) ?_
            try simp only [Act.put, List.setIfInBounds_toArray, List.set_cons_zero, List.set_cons_succ]
            refine wpAnyH_take (i := 25) (v := ?_) (by rw [List.getElem?_toArray]; exact rfl) (by kernel_rfl) (by kernel_rfl) (by kernel_rfl) (by exact fun _ _ _ h => h) (Or.inl ⟨by rfl, (by intro W hSw; obtain ⟨⟨q0, q1, q2, q3, q4, q5, q6, q7, q8, q9, q10⟩, r0, r1, r2, r3, r4, r5, r6, r7, r8, r9, r10⟩ := hSw; go_simp <;> with_reducible rfl)⟩) (by assumption) ?_
            try simp only [Act.put, List.setIfInBounds_toArray, List.set_cons_zero, List.set_cons_succ]
            refine wpAnyH_take (i := 26) (v := ?_) (by rw [List.getElem?_toArray]; exact rfl) (by kernel_rfl) (by kernel_rfl) (by kernel_rfl) (by exact fun _ _ _ h => h) (Or.inl ⟨by rfl, (by intro W hSw; obtain ⟨⟨q0, q1, q2, q3, q4, q5, q6, q7, q8, q9, q10⟩, r0, r1, r2, r3, r4, r5, r6, r7, r8, r9, r10⟩ := hSw; go_simp <;> with_reducible rfl)⟩) (by assumption) ?_
            try simp only [Act.put, List.setIfInBounds_toArray, List.set_cons_zero, List.set_cons_succ]
            refine wpAnyH_take (i := 27) (v := ?_) (by rw [List.getElem?_toArray]; exact rfl) (by kernel_rfl) (by kernel_rfl) (by kernel_rfl) (by exact fun _ _ _ h => h) (Or.inl ⟨by rfl, (by intro W hSw; obtain ⟨⟨q0, q1, q2, q3, q4, q5, q6, q7, q8, q9, q10⟩, r0, r1, r2, r3, r4, r5, r6, r7, r8, r9, r10⟩ := hSw; go_simp <;> with_reducible rfl)⟩) (by assumption) ?_
            try simp only [Act.put, List.setIfInBounds_toArray, List.set_cons_zero, List.set_cons_succ]
            refine wpAnyH_done (by kernel_rfl) ?_ _
            go_wp2
            go_ret
            exact ⟨rfl, HK0.out.trans (KN.out.trans J3.out)⟩

end Go.Proofs.YtflllkpnkcmegaaGreatDoor
