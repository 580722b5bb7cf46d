/- PodAny: the walk. -/
import Derived.Test.YtflllkpnkcmegaaGreatDoorPodKnown
import Derived.Test.YtflllkpnkcmegaaGreatDoorPodFew
import Derived.Test.YtflllkpnkcmegaaGreatDoorPodLow
import Derived.Test.YtflllkpnkcmegaaGreatDoorPodOf
import Derived.Test.YtflllkpnkcmegaaGreatDoorPodRefChk
import Derived.Test.YtflllkpnkcmegaaGreatDoorPodRefEq
import Derived.Test.YtflllkpnkcmegaaGreatDoorPodEq
import Derived.Test.YtflllkpnkcmegaaGreatDoorPodTold
import Derived.Test.YtflllkpnkcmegaaGreatDoorPodRefText
import Derived.Test.YtflllkpnkcmegaaGreatDoorPodOrderW
import Derived.Test.YtflllkpnkcmegaaGreatDoorBase
import Derived.Deep.RegionWith
import Derived.Deep.CutRange
namespace Go.Proofs.YtflllkpnkcmegaaGreatDoor
open Go.RowKit
set_option linter.unusedVariables false

def NotB (p : Nat) (a : Option Addr) : Prop := ∀ b off sp, a = some ⟨b, off, sp⟩ → b ≠ p
/-- The rows of a pod do not lie in block p. -/
structure PNot (p : Nat) (a1 a2 a3 a4 : Option Addr) : Prop where
  h1 : NotB p a1
  h2 : NotB p a2
  h3 : NotB p a3
  h4 : NotB p a4
theorem pod_past {p : Nat} {w w' : World} {n : Pd} {a1 a2 a3 a4 : Option Addr} {m1 c1 m2 c2 m3 c3 m4 c4 : Nat} (h : PodAt w (.slice a1 m1 c1) (.slice a2 m2 c2) (.slice a3 m3 c3) (.slice a4 m4 c4) n) (hs : w'.heap.size = w.heap.size) (hb : ∀ b, b ≠ p → w'.heap[b]? = w.heap[b]?) (g : PNot p a1 a2 a3 a4) : PodAt w' (.slice a1 m1 c1) (.slice a2 m2 c2) (.slice a3 m3 c3) (.slice a4 m4 c4) n :=
  ⟨h.name, h.owner, h.key, h.node, h.prio, h.most, h.need.far hs (fun b o s e => hb b (g.h1 b o s e)), h.labels.far hs (fun b o s e => hb b (g.h2 b o s e)), h.sel.far hs (fun b o s e => hb b (g.h3 b o s e)), h.tols.far hs (fun b o s e => hb b (g.h4 b o s e))⟩
/-- Rows between two blocks. -/
structure PBtw (lo hi : Nat) (a1 a2 a3 a4 : Option Addr) : Prop where
  h1 : Btw lo hi a1
  h2 : Btw lo hi a2
  h3 : Btw lo hi a3
  h4 : Btw lo hi a4
theorem PBtw.lo_not {lo hi p : Nat} {a1 a2 a3 a4 : Option Addr} (h : PBtw lo hi a1 a2 a3 a4) (hp : p < lo) : PNot p a1 a2 a3 a4 :=
  ⟨fun b o s e => by have := (h.h1 b o s e).1; omega, fun b o s e => by have := (h.h2 b o s e).1; omega, fun b o s e => by have := (h.h3 b o s e).1; omega, fun b o s e => by have := (h.h4 b o s e).1; omega⟩
theorem PBtw.hi_not {lo hi p : Nat} {a1 a2 a3 a4 : Option Addr} (h : PBtw lo hi a1 a2 a3 a4) (hp : hi ≤ p) : PNot p a1 a2 a3 a4 :=
  ⟨fun b o s e => by have := (h.h1 b o s e).2; omega, fun b o s e => by have := (h.h2 b o s e).2; omega, fun b o s e => by have := (h.h3 b o s e).2; omega, fun b o s e => by have := (h.h4 b o s e).2; omega⟩
theorem PBtw.up {lo hi hi' : Nat} {a1 a2 a3 a4 : Option Addr} (h : PBtw lo hi a1 a2 a3 a4) (k : hi ≤ hi') : PBtw lo hi' a1 a2 a3 a4 := ⟨h.h1.up (Nat.le_refl _) k, h.h2.up (Nat.le_refl _) k, h.h3.up (Nat.le_refl _) k, h.h4.up (Nat.le_refl _) k⟩
theorem ofP_sp (n : Pd) (v1 v2 v3 v4 : Value) (w : World) (h : PodAt w v1 v2 v3 v4 n) (hl : LowPd n) :
    Calls Tryz.prog 12 #[PodV n v1 v2 v3 v4] w fun e w' => ∃ xs1 xm1 xc1 xs2 xm2 xc2 xs3 xm3 xc3 xs4 xm4 xc4, e = .returned (PodV n (.slice xs1 xm1 xc1) (.slice xs2 xm2 xc2) (.slice xs3 xm3 xc3) (.slice xs4 xm4 xc4)) ∧ PodAt w' (.slice xs1 xm1 xc1) (.slice xs2 xm2 xc2) (.slice xs3 xm3 xc3) (.slice xs4 xm4 xc4) n ∧ PBtw w.heap.size w'.heap.size xs1 xs2 xs3 xs4 ∧ Kept w w' := by
  refine (ofP_any n v1 v2 v3 v4 w h hl).mono ?_
  rintro e w' ⟨⟨n', ⟨b1, n1, d1⟩, ⟨b2, n2, d2⟩, ⟨b3, n3, d3⟩, ⟨b4, n4, d4⟩⟩, rfl, he, hz, hw, k⟩
  have he' : n' = n := he
  subst he'
  exact ⟨b1, n1, d1, b2, n2, d2, b3, n3, d3, b4, n4, d4, rfl, hz, ⟨hw.1, hw.2.1, hw.2.2.1, hw.2.2.2⟩, k⟩
theorem parse_pk {s : List UInt8} {x0 x1 x3 x5 : ByteArray} {x2 x4 : Int} {x6 : Bool} {l1 : Vec.V} {l2 : PL} {l3 : TL} {l4 : NL} {w : World} (hE : EnvP w) (hs : s.length ≤ 900000) (h : Says s ⟨x0, x1, x2, l1, l2, l3, l4, x3, x4, x5, x6⟩) (hc : chkPod ⟨x0, x1, x2, l1, l2, l3, l4, x3, x4, x5, x6⟩ = 0) :
    Calls Tryz.prog 19 #[.string (bytes s)] w fun e w' => ∃ b1 n1 d1 b2 n2 d2 b3 n3 d3 b4 n4 d4, e = .returned (.tuple #[.agg #[.string x0, .string x1, .int .i64 x2, .slice b1 n1 d1, .slice b2 n2 d2, .slice b3 n3 d3, .slice b4 n4 d4, .string x3, .int .i64 x4, .string x5, .bool x6], .int .i64 0]) ∧ PodAt w' (.slice b1 n1 d1) (.slice b2 n2 d2) (.slice b3 n3 d3) (.slice b4 n4 d4) ⟨x0, x1, x2, l1, l2, l3, l4, x3, x4, x5, x6⟩ ∧ Kept w w' :=
  Pk.parse_k (fun W k => parsedPd_any s _ _ W (hE.kept k) hs h hc) (if_pos rfl : (if (0 : Int) = 0 then (⟨x0, x1, x2, l1, l2, l3, l4, x3, x4, x5, x6⟩ : Pd) else Pd.zero) = ⟨x0, x1, x2, l1, l2, l3, l4, x3, x4, x5, x6⟩)
theorem cmpI_three (a b : Int) : cmpI a b = -1 ∨ cmpI a b = 0 ∨ cmpI a b = 1 := by
  unfold cmpI
  split
  · exact .inl rfl
  · split
    · exact .inr (.inr rfl)
    · exact .inr (.inl rfl)
theorem cmpS_three (a b : ByteArray) : cmpS a b = -1 ∨ cmpS a b = 0 ∨ cmpS a b = 1 := by
  unfold cmpS
  split
  · exact .inl rfl
  · split
    · exact .inr (.inl rfl)
    · exact .inr (.inr rfl)
theorem cmpPd_three (n m : Pd) : cmpPd n m = -1 ∨ cmpPd n m = 0 ∨ cmpPd n m = 1 := by
  unfold cmpPd
  by_cases z : cmpI m.prio n.prio ≠ 0
  · rw [if_pos z]; exact cmpI_three _ _
  · rw [if_neg z]; exact cmpS_three _ _

set_option maxRecDepth 100000 in
set_option maxHeartbeats 16000000 in
theorem PodAny_walk (v0 : Value) (a : Pd) (v1 : Value) (b : Pd) (w : World) (hE : EnvP w) (h0 : PodR w v0 a) (h1 : PodR w v1 b) :
    Calls Tryz.prog 3 #[v0, v1] w fun e w' => e = .returned (.bool true) ∧ Kept w w' := by
  obtain ⟨va1, va2, va3, va4, rfl, ha⟩ := h0
  obtain ⟨vb1, vb2, vb3, vb4, rfl, hb⟩ := h1
  obtain ⟨a0, a1, a2, la1, la2, la3, la4, a3, a4, a5, a6⟩ := a
  obtain ⟨b0, b1, b2, lb1, lb2, lb3, lb4, b3, b4, b5, b6⟩ := b
  obtain ⟨W0, hW0⟩ : ∃ W0, (w.alloc (.cells #[.string a0, .string a1, .int .i64 a2, va1, va2, va3, va4, .string a3, .int .i64 a4, .string a5, .bool a6] 30)).alloc (.cells #[.string b0, .string b1, .int .i64 b2, vb1, vb2, vb3, vb4, .string b3, .int .i64 b4, .string b5, .bool b6] 30) = W0 := ⟨_, rfl⟩
  have hk0 : Kept w W0 := by rw [← hW0]; exact kept_two _ _ _
  have HC0 := Lib.hid (show ∀ W, Kept W0 W → W.cell? ⟨w.heap.size, 0, none⟩ = some (.string a0) ∧ W.cell? ⟨w.heap.size, 1, none⟩ = some (.string a1) ∧ W.cell? ⟨w.heap.size, 2, none⟩ = some (.int .i64 a2) ∧ W.cell? ⟨w.heap.size, 3, none⟩ = some (va1) ∧ W.cell? ⟨w.heap.size, 4, none⟩ = some (va2) ∧ W.cell? ⟨w.heap.size, 5, none⟩ = some (va3) ∧ W.cell? ⟨w.heap.size, 6, none⟩ = some (va4) ∧ W.cell? ⟨w.heap.size, 7, none⟩ = some (.string a3) ∧ W.cell? ⟨w.heap.size, 8, none⟩ = some (.int .i64 a4) ∧ W.cell? ⟨w.heap.size, 9, none⟩ = some (.string a5) ∧ W.cell? ⟨w.heap.size, 10, none⟩ = some (.bool a6) ∧ W.cell? ⟨(w.heap.size + 1), 0, none⟩ = some (.string b0) ∧ W.cell? ⟨(w.heap.size + 1), 1, none⟩ = some (.string b1) ∧ W.cell? ⟨(w.heap.size + 1), 2, none⟩ = some (.int .i64 b2) ∧ W.cell? ⟨(w.heap.size + 1), 3, none⟩ = some (vb1) ∧ W.cell? ⟨(w.heap.size + 1), 4, none⟩ = some (vb2) ∧ W.cell? ⟨(w.heap.size + 1), 5, none⟩ = some (vb3) ∧ W.cell? ⟨(w.heap.size + 1), 6, none⟩ = some (vb4) ∧ W.cell? ⟨(w.heap.size + 1), 7, none⟩ = some (.string b3) ∧ W.cell? ⟨(w.heap.size + 1), 8, none⟩ = some (.int .i64 b4) ∧ W.cell? ⟨(w.heap.size + 1), 9, none⟩ = some (.string b5) ∧ W.cell? ⟨(w.heap.size + 1), 10, none⟩ = some (.bool b6) from fun W k => by
    have c := freshN w (.string a0) [.string a1, .int .i64 a2, va1, va2, va3, va4, .string a3, .int .i64 a4, .string a5, .bool a6] 30 W (by rw [← hW0] at k; exact (kept_alloc _ _).trans k)
    have d := freshN (w.alloc (.cells #[.string a0, .string a1, .int .i64 a2, va1, va2, va3, va4, .string a3, .int .i64 a4, .string a5, .bool a6] 30)) (.string b0) [.string b1, .int .i64 b2, vb1, vb2, vb3, vb4, .string b3, .int .i64 b4, .string b5, .bool b6] 30 W (by rw [hW0]; exact k)
    rw [World.size_alloc] at d
    exact ⟨(c).at_ 0 _ rfl, (c).at_ 1 _ rfl, (c).at_ 2 _ rfl, (c).at_ 3 _ rfl, (c).at_ 4 _ rfl, (c).at_ 5 _ rfl, (c).at_ 6 _ rfl, (c).at_ 7 _ rfl, (c).at_ 8 _ rfl, (c).at_ 9 _ rfl, (c).at_ 10 _ rfl, (d).at_ 0 _ rfl, (d).at_ 1 _ rfl, (d).at_ 2 _ rfl, (d).at_ 3 _ rfl, (d).at_ 4 _ rfl, (d).at_ 5 _ rfl, (d).at_ 6 _ rfl, (d).at_ 7 _ rfl, (d).at_ 8 _ rfl, (d).at_ 9 _ rfl, (d).at_ 10 _ rfl⟩)
  have HKN := Lib.hid (Pk.known_any W0 (hE.kept hk0))
  have RA := Lib.hid (fun W (k : Kept W0 W) => show PodR W (.agg #[.string a0, .string a1, .int .i64 a2, va1, va2, va3, va4, .string a3, .int .i64 a4, .string a5, .bool a6]) ⟨a0, a1, a2, la1, la2, la3, la4, a3, a4, a5, a6⟩ from ⟨_, _, _, _, rfl, ha.kept (hk0.trans k)⟩)
  have RB := Lib.hid (fun W (k : Kept W0 W) => show PodR W (.agg #[.string b0, .string b1, .int .i64 b2, vb1, vb2, vb3, vb4, .string b3, .int .i64 b4, .string b5, .bool b6]) ⟨b0, b1, b2, lb1, lb2, lb3, lb4, b3, b4, b5, b6⟩ from ⟨_, _, _, _, rfl, hb.kept (hk0.trans k)⟩)
  have HOA0 := Lib.hid (fun W (k : Kept W0 W) (hl : LowPd ⟨a0, a1, a2, la1, la2, la3, la4, a3, a4, a5, a6⟩) => ofP_sp ⟨a0, a1, a2, la1, la2, la3, la4, a3, a4, a5, a6⟩ va1 va2 va3 va4 W (ha.kept (hk0.trans k)) hl)
  have HOB0 := Lib.hid (fun W (k : Kept W0 W) (hl : LowPd ⟨b0, b1, b2, lb1, lb2, lb3, lb4, b3, b4, b5, b6⟩) => ofP_sp ⟨b0, b1, b2, lb1, lb2, lb3, lb4, b3, b4, b5, b6⟩ vb1 vb2 vb3 vb4 W (hb.kept (hk0.trans k)) hl)
  have HFV := Lib.hid (ha.need.fine)
  have HPR := Lib.hid ha.prio
  have HMO := Lib.hid ha.most
  have HE := Lib.hid (hE.kept hk0)
  have HK0 := Lib.hid hk0
  obtain ⟨fa, hfa⟩ : ∃ f, fewPd ⟨a0, a1, a2, la1, la2, la3, la4, a3, a4, a5, a6⟩ = f := ⟨_, rfl⟩
  obtain ⟨fb, hfb⟩ : ∃ f, fewPd ⟨b0, b1, b2, lb1, lb2, lb3, lb4, b3, b4, b5, b6⟩ = f := ⟨_, rfl⟩
  have FA := Lib.hid hfa
  have FB := Lib.hid hfb
  clear ha hb hk0 hE hfa hfb
  unfold PodV at HOA0 HOB0 ⊢
  dsimp only at HOA0 HOB0 ⊢
  obtain ⟨q0, q1, q2, q3, q4, q5, q6, q7, q8, q9, q10, q11, q12, q13, q14, q15, q16, q17, q18, q19, q20, q21⟩ := HC0.out _ (Kept.refl _)
  cases fa with
  | false =>
    go_enter Tryz.func3, Tryz.ntmps3
    go_wp2_with fail
    try rw [hW0]
    clear hW0
    refine HKN.out.mono ?_
    rintro e w1 ⟨rfl, k⟩
    have K := Lib.hid k
    clear k q0 q1 q2 q3 q4 q5 q6 q7 q8 q9 q10 q11 q12 q13 q14 q15 q16 q17 q18 q19 q20 q21
    obtain ⟨q0, q1, q2, q3, q4, q5, q6, q7, q8, q9, q10, q11, q12, q13, q14, q15, q16, q17, q18, q19, q20, q21⟩ := HC0.out _ K.out
    go_wp2_with fail
    refine (fewPdR (RA.out _ K.out) FA.out).mono ?_
    rintro e w2 ⟨rfl, k⟩
    have K := Lib.hid (K.out.trans k)
    clear k q0 q1 q2 q3 q4 q5 q6 q7 q8 q9 q10 q11 q12 q13 q14 q15 q16 q17 q18 q19 q20 q21
    go_wp2
    go_ret
    exact ⟨rfl, HK0.out.trans K.out⟩
  | true =>
    cases fb with
    | false =>
      go_enter Tryz.func3, Tryz.ntmps3
      go_wp2_with fail
      try rw [hW0]
      clear hW0
      refine HKN.out.mono ?_
      rintro e w1 ⟨rfl, k⟩
      have K := Lib.hid k
      clear k q0 q1 q2 q3 q4 q5 q6 q7 q8 q9 q10 q11 q12 q13 q14 q15 q16 q17 q18 q19 q20 q21
      obtain ⟨q0, q1, q2, q3, q4, q5, q6, q7, q8, q9, q10, q11, q12, q13, q14, q15, q16, q17, q18, q19, q20, q21⟩ := HC0.out _ K.out
      go_wp2_with fail
      refine (fewPdR (RA.out _ K.out) FA.out).mono ?_
      rintro e w2 ⟨rfl, k⟩
      have K := Lib.hid (K.out.trans k)
      clear k q0 q1 q2 q3 q4 q5 q6 q7 q8 q9 q10 q11 q12 q13 q14 q15 q16 q17 q18 q19 q20 q21
      obtain ⟨q0, q1, q2, q3, q4, q5, q6, q7, q8, q9, q10, q11, q12, q13, q14, q15, q16, q17, q18, q19, q20, q21⟩ := HC0.out _ K.out
      go_wp2_with fail
      refine (fewPdR (RB.out _ K.out) FB.out).mono ?_
      rintro e w1 ⟨rfl, k⟩
      have K := Lib.hid (K.out.trans k)
      clear k q0 q1 q2 q3 q4 q5 q6 q7 q8 q9 q10 q11 q12 q13 q14 q15 q16 q17 q18 q19 q20 q21
      go_wp2
      go_ret
      exact ⟨rfl, HK0.out.trans K.out⟩
    | true =>
      have HOA1 := Lib.hid (fun W k => HOA0.out W k (few_lowP FA.out))
      have HOB1 := Lib.hid (fun W k => HOB0.out W k (few_lowP FB.out))
      obtain ⟨ck, hck⟩ : ∃ x, chkPod ⟨a0, a1, a2, la1, la2, la3, la4, a3, a4, a5, a6⟩ = x := ⟨_, rfl⟩
      obtain ⟨sm, hsm⟩ : ∃ x, samePd ⟨a0, a1, a2, la1, la2, la3, la4, a3, a4, a5, a6⟩ ⟨b0, b1, b2, lb1, lb2, lb3, lb4, b3, b4, b5, b6⟩ = x := ⟨_, rfl⟩
      obtain ⟨cx, hcx⟩ : ∃ x, cmpPd ⟨a0, a1, a2, la1, la2, la3, la4, a3, a4, a5, a6⟩ ⟨b0, b1, b2, lb1, lb2, lb3, lb4, b3, b4, b5, b6⟩ = x := ⟨_, rfl⟩
      obtain ⟨cu, hcu⟩ : ∃ x, cmpPd ⟨b0, b1, b2, lb1, lb2, lb3, lb4, b3, b4, b5, b6⟩ ⟨a0, a1, a2, la1, la2, la3, la4, a3, a4, a5, a6⟩ = x := ⟨_, rfl⟩
      have hx3 : cx = -1 ∨ cx = 0 ∨ cx = 1 := by rw [← hcx]; exact cmpPd_three _ _
      have hux : cu = -cx := by rw [← hcu, ← hcx]; exact cmpPd_swap _ _
      have HCK := Lib.hid hck
      have HSM := Lib.hid hsm
      have HCX := Lib.hid hcx
      have HCU := Lib.hid hcu
      have e1 : (ck != ck) = false := by simp
      have e2 : (sm != sm) = false := by simp
      have e3 : (cx != cx) = false := by simp
      have e4 : IntKind.i64.wrap (0 - cx) = cu := by rw [hux]; rcases hx3 with h | h | h <;> rw [h] <;> rfl
      have e5 : IntKind.i64.wrap (-cx) = cu := by rw [hux]; rcases hx3 with h | h | h <;> rw [h] <;> rfl
      have e6 : (cu != cu) = false := by simp
      clear hck hsm hcx hcu hx3 hux HOA0 HOB0
      go_enter Tryz.func3, Tryz.ntmps3
      go_wp2_with fail
      try rw [hW0]
      clear hW0
      refine HKN.out.mono ?_
      rintro e w1 ⟨rfl, k⟩
      have K := Lib.hid k
      clear k q0 q1 q2 q3 q4 q5 q6 q7 q8 q9 q10 q11 q12 q13 q14 q15 q16 q17 q18 q19 q20 q21
      obtain ⟨q0, q1, q2, q3, q4, q5, q6, q7, q8, q9, q10, q11, q12, q13, q14, q15, q16, q17, q18, q19, q20, q21⟩ := HC0.out _ K.out
      go_wp2_with fail
      refine (fewPdR (RA.out _ K.out) FA.out).mono ?_
      rintro e w2 ⟨rfl, k⟩
      have K := Lib.hid (K.out.trans k)
      clear k q0 q1 q2 q3 q4 q5 q6 q7 q8 q9 q10 q11 q12 q13 q14 q15 q16 q17 q18 q19 q20 q21
      obtain ⟨q0, q1, q2, q3, q4, q5, q6, q7, q8, q9, q10, q11, q12, q13, q14, q15, q16, q17, q18, q19, q20, q21⟩ := HC0.out _ K.out
      go_wp2_with fail
      refine (fewPdR (RB.out _ K.out) FB.out).mono ?_
      rintro e w1 ⟨rfl, k⟩
      have K := Lib.hid (K.out.trans k)
      clear k q0 q1 q2 q3 q4 q5 q6 q7 q8 q9 q10 q11 q12 q13 q14 q15 q16 q17 q18 q19 q20 q21
      have HC := Lib.hid (fun W (k : Kept w1 W) => HC0.out W (K.out.trans k))
      have HOA := Lib.hid (fun W (k : Kept w1 W) => HOA1.out W (K.out.trans k))
      have HOB := Lib.hid (fun W (k : Kept w1 W) => HOB1.out W (K.out.trans k))
      go_wp2
      go_cut [5, 6] from 20 to 24 (fun s5 s6 wx => ∃ p q, s5 = .pointer (some ⟨p, 0, none⟩) ∧ s6 = .pointer (some ⟨q, 0, none⟩) ∧ ∃ xs1 xm1 xc1 xs2 xm2 xc2 xs3 xm3 xc3 xs4 xm4 xc4 ys1 ym1 yc1 ys2 ym2 yc2 ys3 ym3 yc3 ys4 ym4 yc4, CellsN p [.string a0, .string a1, .int .i64 a2, .slice xs1 xm1 xc1, .slice xs2 xm2 xc2, .slice xs3 xm3 xc3, .slice xs4 xm4 xc4, .string a3, .int .i64 a4, .string a5, .bool a6] wx ∧ CellsN q [.string b0, .string b1, .int .i64 b2, .slice ys1 ym1 yc1, .slice ys2 ym2 yc2, .slice ys3 ym3 yc3, .slice ys4 ym4 yc4, .string b3, .int .i64 b4, .string b5, .bool b6] wx ∧ PodAt wx (.slice xs1 xm1 xc1) (.slice xs2 xm2 xc2) (.slice xs3 xm3 xc3) (.slice xs4 xm4 xc4) ⟨a0, a1, a2, la1, la2, la3, la4, a3, a4, a5, a6⟩ ∧ PodAt wx (.slice ys1 ym1 yc1) (.slice ys2 ym2 yc2) (.slice ys3 ym3 yc3) (.slice ys4 ym4 yc4) ⟨b0, b1, b2, lb1, lb2, lb3, lb4, b3, b4, b5, b6⟩ ∧ Kept w1 wx)
      case first =>
        refine wp_region_held_drew (S := fun W => Kept w1 W) (by kernel_rfl) (Kept.drew _) (fun hHeld => ?_)
        have KK := Lib.hid hHeld
        obtain ⟨wd, hwd⟩ : ∃ W, w1.drew = W := ⟨_, rfl⟩
        rw [hwd] at KK hHeld ⊢
        clear hwd
        refine wpAnyH_take (i := 0) (v := ?_) (by rw [List.getElem?_toArray]; exact rfl) (by kernel_rfl) (by kernel_rfl) (by kernel_rfl) (by exact fun _ _ _ h => h) (Or.inl ⟨by rfl, (by intro W hSw; obtain ⟨q0, q1, q2, q3, q4, q5, q6, q7, q8, q9, q10, q11, q12, q13, q14, q15, q16, q17, q18, q19, q20, q21⟩ := HC.out _ hSw; go_simp <;> with_reducible rfl)⟩) (by assumption) ?_
        try simp only [Act.put, List.setIfInBounds_toArray, List.set_cons_zero, List.set_cons_succ]
        refine wpAnyH_take (i := 2) (v := ?_) (by rw [List.getElem?_toArray]; exact rfl) (by kernel_rfl) (by kernel_rfl) (by kernel_rfl) (by exact fun _ _ _ h => h) (Or.inl ⟨by rfl, (by intro W hSw; obtain ⟨q0, q1, q2, q3, q4, q5, q6, q7, q8, q9, q10, q11, q12, q13, q14, q15, q16, q17, q18, q19, q20, q21⟩ := HC.out _ hSw; go_simp <;> with_reducible rfl)⟩) (by assumption) ?_
        try simp only [Act.put, List.setIfInBounds_toArray, List.set_cons_zero, List.set_cons_succ]
        refine wpAnyH_ready (rs := [1, 4, 5]) (by kernel_rfl) (by simp) (AllReadyH.cons (by rw [List.getElem?_toArray]; exact rfl) (fun K9 hK9 => ?_) (AllReadyH.cons (by rw [List.getElem?_toArray]; exact rfl) (fun K9 hK9 => ?_) (AllReadyH.cons (by rw [List.getElem?_toArray]; exact rfl) (fun K9 hK9 => ?_) AllReadyH.nil)))
        · skip
          go_simp
          refine (HOA.out _ KK.out).mono ?_
          rintro e9 ww1 ⟨xs1, xm1, xc1, xs2, xm2, xc2, xs3, xm3, xc3, xs4, xm4, xc4, rfl, hz, hw, k⟩
          have KK := Lib.hid (KK.out.trans k)
          have ZA := Lib.hid hz
          have WA := Lib.hid hw
          clear hz hw k
          refine hK9.out _ _ KK.out (fun hHeld2 => ?_)
          clear hK9 K9
          try simp only [Act.put, List.setIfInBounds_toArray, List.set_cons_zero, List.set_cons_succ]
          refine wpAnyH_ready (rs := [3, 4, 5]) (by kernel_rfl) (by simp) (AllReadyH.cons (by rw [List.getElem?_toArray]; exact rfl) (fun K9 hK9 => ?_) (AllReadyH.cons (by rw [List.getElem?_toArray]; exact rfl) (fun K9 hK9 => ?_) (AllReadyH.cons (by rw [List.getElem?_toArray]; exact rfl) (fun K9 hK9 => ?_) AllReadyH.nil)))
          · skip
            go_simp
            refine (HOB.out _ KK.out).mono ?_
            rintro e9 ww3 ⟨ys1, ym1, yc1, ys2, ym2, yc2, ys3, ym3, yc3, ys4, ym4, yc4, rfl, hz, hw, k⟩
            have KK := Lib.hid (KK.out.trans k)
            have ZA := Lib.hid (ZA.out.kept k)
            have WA := Lib.hid (WA.out.up k.size)
            have ZB := Lib.hid hz
            have WB := Lib.hid hw
            clear hz hw k
            refine hK9.out _ _ KK.out (fun hHeld4 => ?_)
            clear hK9 K9
            try simp only [Act.put, List.setIfInBounds_toArray, List.set_cons_zero, List.set_cons_succ]
            refine wpAnyH_ready (rs := [4, 5]) (by kernel_rfl) (by simp) (AllReadyH.cons (by rw [List.getElem?_toArray]; exact rfl) (fun K9 hK9 => ?_) (AllReadyH.cons (by rw [List.getElem?_toArray]; exact rfl) (fun K9 hK9 => ?_) AllReadyH.nil))
            · skip
              go_simp
              have k := kept_alloc ww3 (.cells #[.string ⟨#[]⟩, .string ⟨#[]⟩, .int .i64 0, .slice none 0 0, .slice none 0 0, .slice none 0 0, .slice none 0 0, .string ⟨#[]⟩, .int .i64 0, .string ⟨#[]⟩, .bool false] 38)
              have hn := freshN ww3 (.string ⟨#[]⟩) [.string ⟨#[]⟩, .int .i64 0, .slice none 0 0, .slice none 0 0, .slice none 0 0, .slice none 0 0, .string ⟨#[]⟩, .int .i64 0, .string ⟨#[]⟩, .bool false] 38 _ (Kept.refl _)
              have hp9 : w1.heap.size ≤ ww3.heap.size := KK.out.size
              have nA := WA.out.hi_not (Nat.le_refl ww3.heap.size)
              have nB := WB.out.hi_not (Nat.le_refl ww3.heap.size)
              obtain ⟨p, hpe⟩ : ∃ z, ww3.heap.size = z := ⟨_, rfl⟩
              rw [hpe] at hn hp9 nA nB ⊢
              have NAp := Lib.hid nA
              clear nA
              have NBp := Lib.hid nB
              clear nB
              obtain ⟨ww5, hnw⟩ : ∃ W, ww3.alloc (.cells #[.string ⟨#[]⟩, .string ⟨#[]⟩, .int .i64 0, .slice none 0 0, .slice none 0 0, .slice none 0 0, .slice none 0 0, .string ⟨#[]⟩, .int .i64 0, .string ⟨#[]⟩, .bool false] 38) = W := ⟨_, rfl⟩
              rw [hnw] at hn k ⊢
              clear hnw hpe
              have KK := Lib.hid (KK.out.trans k)
              have ZA := Lib.hid (ZA.out.kept k)
              have WA := Lib.hid (WA.out.up k.size)
              have ZB := Lib.hid (ZB.out.kept k)
              have WB := Lib.hid (WB.out.up k.size)
              have QA := Lib.hid hn
              have HAP := Lib.hid hp9
              clear hn k hp9
              refine hK9.out _ _ KK.out (fun hHeld6 => ?_)
              clear hK9 K9
              try simp only [Act.put, List.setIfInBounds_toArray, List.set_cons_zero, List.set_cons_succ]
              refine wpAnyH_ready (rs := [5]) (by kernel_rfl) (by simp) (AllReadyH.cons (by rw [List.getElem?_toArray]; exact rfl) (fun K9 hK9 => ?_) AllReadyH.nil)
              go_simp
              have k := kept_alloc ww5 (.cells #[.string ⟨#[]⟩, .string ⟨#[]⟩, .int .i64 0, .slice none 0 0, .slice none 0 0, .slice none 0 0, .slice none 0 0, .string ⟨#[]⟩, .int .i64 0, .string ⟨#[]⟩, .bool false] 38)
              have hn := freshN ww5 (.string ⟨#[]⟩) [.string ⟨#[]⟩, .int .i64 0, .slice none 0 0, .slice none 0 0, .slice none 0 0, .slice none 0 0, .string ⟨#[]⟩, .int .i64 0, .string ⟨#[]⟩, .bool false] 38 _ (Kept.refl _)
              have hp9 : w1.heap.size ≤ ww5.heap.size := KK.out.size
              have hpq : p ≠ ww5.heap.size := by have := QA.out.lt; omega
              have nA := WA.out.hi_not (Nat.le_refl ww5.heap.size)
              have nB := WB.out.hi_not (Nat.le_refl ww5.heap.size)
              obtain ⟨q, hqe⟩ : ∃ z, ww5.heap.size = z := ⟨_, rfl⟩
              rw [hqe] at hn hp9 hpq nA nB ⊢
              have NAq := Lib.hid nA
              clear nA
              have NBq := Lib.hid nB
              clear nB
              obtain ⟨ww7, hnw⟩ : ∃ W, ww5.alloc (.cells #[.string ⟨#[]⟩, .string ⟨#[]⟩, .int .i64 0, .slice none 0 0, .slice none 0 0, .slice none 0 0, .slice none 0 0, .string ⟨#[]⟩, .int .i64 0, .string ⟨#[]⟩, .bool false] 38) = W := ⟨_, rfl⟩
              rw [hnw] at hn k ⊢
              clear hnw hqe
              have KK := Lib.hid (KK.out.trans k)
              have ZA := Lib.hid (ZA.out.kept k)
              have WA := Lib.hid (WA.out.up k.size)
              have ZB := Lib.hid (ZB.out.kept k)
              have WB := Lib.hid (WB.out.up k.size)
              have QA := Lib.hid (CellsN.kept QA.out k)
              have QB := Lib.hid hn
              have HBP := Lib.hid hp9
              clear hn k hp9
              refine hK9.out _ _ KK.out (fun hHeld8 => ?_)
              clear hK9 K9
              try simp only [Act.put, List.setIfInBounds_toArray, List.set_cons_zero, List.set_cons_succ]
              refine wpAnyH_ready (rs := [6]) (by kernel_rfl) (by simp) (AllReadyH.cons (by rw [List.getElem?_toArray]; exact rfl) (fun K9 hK9 => ?_) AllReadyH.nil)
              have z0 := QA.out.at_ 0 _ rfl
              have z1 := QA.out.at_ 1 _ rfl
              have z2 := QA.out.at_ 2 _ rfl
              have z3 := QA.out.at_ 3 _ rfl
              have z4 := QA.out.at_ 4 _ rfl
              have z5 := QA.out.at_ 5 _ rfl
              have z6 := QA.out.at_ 6 _ rfl
              have z7 := QA.out.at_ 7 _ rfl
              have z8 := QA.out.at_ 8 _ rfl
              have z9 := QA.out.at_ 9 _ rfl
              have z10 := QA.out.at_ 10 _ rfl
              have y0 := QA.out.free 0
              have y1 := QA.out.free 1
              have y2 := QA.out.free 2
              have y3 := QA.out.free 3
              have y4 := QA.out.free 4
              have y5 := QA.out.free 5
              have y6 := QA.out.free 6
              have y7 := QA.out.free 7
              have y8 := QA.out.free 8
              have y9 := QA.out.free 9
              have y10 := QA.out.free 10
              go_simp
              have PP := Lib.hid (putN (vs := [.string a0, .string a1, .int .i64 a2, .slice xs1 xm1 xc1, .slice xs2 xm2 xc2, .slice xs3 xm3 xc3, .slice xs4 xm4 xc4, .string a3, .int .i64 a4, .string a5, .bool a6]) QA.out rfl)
              obtain ⟨ww9, hnw⟩ : ∃ W, ww7.setCells p 0 [.string a0, .string a1, .int .i64 a2, .slice xs1 xm1 xc1, .slice xs2 xm2 xc2, .slice xs3 xm3 xc3, .slice xs4 xm4 xc4, .string a3, .int .i64 a4, .string a5, .bool a6] = W := ⟨_, rfl⟩
              have hnw2 : (((((((((((ww7.setCell ⟨p, 0, none⟩ (.string a0)).setCell ⟨p, 1, none⟩ (.string a1)).setCell ⟨p, 2, none⟩ (.int .i64 a2)).setCell ⟨p, 3, none⟩ (.slice xs1 xm1 xc1)).setCell ⟨p, 4, none⟩ (.slice xs2 xm2 xc2)).setCell ⟨p, 5, none⟩ (.slice xs3 xm3 xc3)).setCell ⟨p, 6, none⟩ (.slice xs4 xm4 xc4)).setCell ⟨p, 7, none⟩ (.string a3)).setCell ⟨p, 8, none⟩ (.int .i64 a4)).setCell ⟨p, 9, none⟩ (.string a5)).setCell ⟨p, 10, none⟩ (.bool a6)) = ww9 := hnw
              rw [hnw] at PP
              rw [hnw2]
              clear hnw hnw2 z0 y0 z1 y1 z2 y2 z3 y3 z4 y4 z5 y5 z6 y6 z7 y7 z8 y8 z9 y9 z10 y10
              have ZA := Lib.hid (pod_past ZA.out PP.out.size PP.out.far NAp.out)
              have ZB := Lib.hid (pod_past ZB.out PP.out.size PP.out.far NBp.out)
              have QB := Lib.hid (QB.out.block (PP.out.far q (fun e => hpq e.symm)))
              have KK := Lib.hid (show Kept w1 ww9 from PP.out.below _ _ HAP.out KK.out)
              have QA := Lib.hid PP.out.cells
              clear PP
              refine hK9.out _ _ KK.out (fun hHeld10 => ?_)
              clear hK9 K9
              try simp only [Act.put, List.setIfInBounds_toArray, List.set_cons_zero, List.set_cons_succ]
              refine wpAnyH_ready (rs := [7]) (by kernel_rfl) (by simp) (AllReadyH.cons (by rw [List.getElem?_toArray]; exact rfl) (fun K9 hK9 => ?_) AllReadyH.nil)
              have z0 := QB.out.at_ 0 _ rfl
              have z1 := QB.out.at_ 1 _ rfl
              have z2 := QB.out.at_ 2 _ rfl
              have z3 := QB.out.at_ 3 _ rfl
              have z4 := QB.out.at_ 4 _ rfl
              have z5 := QB.out.at_ 5 _ rfl
              have z6 := QB.out.at_ 6 _ rfl
              have z7 := QB.out.at_ 7 _ rfl
              have z8 := QB.out.at_ 8 _ rfl
              have z9 := QB.out.at_ 9 _ rfl
              have z10 := QB.out.at_ 10 _ rfl
              have y0 := QB.out.free 0
              have y1 := QB.out.free 1
              have y2 := QB.out.free 2
              have y3 := QB.out.free 3
              have y4 := QB.out.free 4
              have y5 := QB.out.free 5
              have y6 := QB.out.free 6
              have y7 := QB.out.free 7
              have y8 := QB.out.free 8
              have y9 := QB.out.free 9
              have y10 := QB.out.free 10
              go_simp
              have PP := Lib.hid (putN (vs := [.string b0, .string b1, .int .i64 b2, .slice ys1 ym1 yc1, .slice ys2 ym2 yc2, .slice ys3 ym3 yc3, .slice ys4 ym4 yc4, .string b3, .int .i64 b4, .string b5, .bool b6]) QB.out rfl)
              obtain ⟨ww11, hnw⟩ : ∃ W, ww9.setCells q 0 [.string b0, .string b1, .int .i64 b2, .slice ys1 ym1 yc1, .slice ys2 ym2 yc2, .slice ys3 ym3 yc3, .slice ys4 ym4 yc4, .string b3, .int .i64 b4, .string b5, .bool b6] = W := ⟨_, rfl⟩
              have hnw2 : (((((((((((ww9.setCell ⟨q, 0, none⟩ (.string b0)).setCell ⟨q, 1, none⟩ (.string b1)).setCell ⟨q, 2, none⟩ (.int .i64 b2)).setCell ⟨q, 3, none⟩ (.slice ys1 ym1 yc1)).setCell ⟨q, 4, none⟩ (.slice ys2 ym2 yc2)).setCell ⟨q, 5, none⟩ (.slice ys3 ym3 yc3)).setCell ⟨q, 6, none⟩ (.slice ys4 ym4 yc4)).setCell ⟨q, 7, none⟩ (.string b3)).setCell ⟨q, 8, none⟩ (.int .i64 b4)).setCell ⟨q, 9, none⟩ (.string b5)).setCell ⟨q, 10, none⟩ (.bool b6)) = ww11 := hnw
              rw [hnw] at PP
              rw [hnw2]
              clear hnw hnw2 z0 y0 z1 y1 z2 y2 z3 y3 z4 y4 z5 y5 z6 y6 z7 y7 z8 y8 z9 y9 z10 y10
              have ZA := Lib.hid (pod_past ZA.out PP.out.size PP.out.far NAq.out)
              have ZB := Lib.hid (pod_past ZB.out PP.out.size PP.out.far NBq.out)
              have QA := Lib.hid (QA.out.block (PP.out.far p hpq))
              have KK := Lib.hid (show Kept w1 ww11 from PP.out.below _ _ HBP.out KK.out)
              have QB := Lib.hid PP.out.cells
              clear PP
              refine hK9.out _ _ KK.out (fun hHeld12 => ?_)
              clear hK9 K9
              try simp only [Act.put, List.setIfInBounds_toArray, List.set_cons_zero, List.set_cons_succ]
              refine wpAnyH_done (by kernel_rfl) ?_ _
              go_wp2
              go_meet
              case rel => exact ⟨p, q, rfl, rfl, xs1, xm1, xc1, xs2, xm2, xc2, xs3, xm3, xc3, xs4, xm4, xc4, ys1, ym1, yc1, ys2, ym2, yc2, ys3, ym3, yc3, ys4, ym4, yc4, QA.out, QB.out, ZA.out, ZB.out, KK.out⟩
            · skip
              go_simp
              have k := kept_alloc ww3 (.cells #[.string ⟨#[]⟩, .string ⟨#[]⟩, .int .i64 0, .slice none 0 0, .slice none 0 0, .slice none 0 0, .slice none 0 0, .string ⟨#[]⟩, .int .i64 0, .string ⟨#[]⟩, .bool false] 38)
              have hn := freshN ww3 (.string ⟨#[]⟩) [.string ⟨#[]⟩, .int .i64 0, .slice none 0 0, .slice none 0 0, .slice none 0 0, .slice none 0 0, .string ⟨#[]⟩, .int .i64 0, .string ⟨#[]⟩, .bool false] 38 _ (Kept.refl _)
              have hp9 : w1.heap.size ≤ ww3.heap.size := KK.out.size
              have nA := WA.out.hi_not (Nat.le_refl ww3.heap.size)
              have nB := WB.out.hi_not (Nat.le_refl ww3.heap.size)
              obtain ⟨q, hqe⟩ : ∃ z, ww3.heap.size = z := ⟨_, rfl⟩
              rw [hqe] at hn hp9 nA nB ⊢
              have NAq := Lib.hid nA
              clear nA
              have NBq := Lib.hid nB
              clear nB
              obtain ⟨ww13, hnw⟩ : ∃ W, ww3.alloc (.cells #[.string ⟨#[]⟩, .string ⟨#[]⟩, .int .i64 0, .slice none 0 0, .slice none 0 0, .slice none 0 0, .slice none 0 0, .string ⟨#[]⟩, .int .i64 0, .string ⟨#[]⟩, .bool false] 38) = W := ⟨_, rfl⟩
              rw [hnw] at hn k ⊢
              clear hnw hqe
              have KK := Lib.hid (KK.out.trans k)
              have ZA := Lib.hid (ZA.out.kept k)
              have WA := Lib.hid (WA.out.up k.size)
              have ZB := Lib.hid (ZB.out.kept k)
              have WB := Lib.hid (WB.out.up k.size)
              have QB := Lib.hid hn
              have HBP := Lib.hid hp9
              clear hn k hp9
              refine hK9.out _ _ KK.out (fun hHeld14 => ?_)
              clear hK9 K9
              try simp only [Act.put, List.setIfInBounds_toArray, List.set_cons_zero, List.set_cons_succ]
              refine wpAnyH_ready (rs := [4]) (by kernel_rfl) (by simp) (AllReadyH.cons (by rw [List.getElem?_toArray]; exact rfl) (fun K9 hK9 => ?_) AllReadyH.nil)
              go_simp
              have k := kept_alloc ww13 (.cells #[.string ⟨#[]⟩, .string ⟨#[]⟩, .int .i64 0, .slice none 0 0, .slice none 0 0, .slice none 0 0, .slice none 0 0, .string ⟨#[]⟩, .int .i64 0, .string ⟨#[]⟩, .bool false] 38)
              have hn := freshN ww13 (.string ⟨#[]⟩) [.string ⟨#[]⟩, .int .i64 0, .slice none 0 0, .slice none 0 0, .slice none 0 0, .slice none 0 0, .string ⟨#[]⟩, .int .i64 0, .string ⟨#[]⟩, .bool false] 38 _ (Kept.refl _)
              have hp9 : w1.heap.size ≤ ww13.heap.size := KK.out.size
              have hpq : ww13.heap.size ≠ q := by have := QB.out.lt; omega
              have nA := WA.out.hi_not (Nat.le_refl ww13.heap.size)
              have nB := WB.out.hi_not (Nat.le_refl ww13.heap.size)
              obtain ⟨p, hpe⟩ : ∃ z, ww13.heap.size = z := ⟨_, rfl⟩
              rw [hpe] at hn hp9 hpq nA nB ⊢
              have NAp := Lib.hid nA
              clear nA
              have NBp := Lib.hid nB
              clear nB
              obtain ⟨ww15, hnw⟩ : ∃ W, ww13.alloc (.cells #[.string ⟨#[]⟩, .string ⟨#[]⟩, .int .i64 0, .slice none 0 0, .slice none 0 0, .slice none 0 0, .slice none 0 0, .string ⟨#[]⟩, .int .i64 0, .string ⟨#[]⟩, .bool false] 38) = W := ⟨_, rfl⟩
              rw [hnw] at hn k ⊢
              clear hnw hpe
              have KK := Lib.hid (KK.out.trans k)
              have ZA := Lib.hid (ZA.out.kept k)
              have WA := Lib.hid (WA.out.up k.size)
              have ZB := Lib.hid (ZB.out.kept k)
              have WB := Lib.hid (WB.out.up k.size)
              have QB := Lib.hid (CellsN.kept QB.out k)
              have QA := Lib.hid hn
              have HAP := Lib.hid hp9
              clear hn k hp9
              refine hK9.out _ _ KK.out (fun hHeld16 => ?_)
              clear hK9 K9
              try simp only [Act.put, List.setIfInBounds_toArray, List.set_cons_zero, List.set_cons_succ]
              refine wpAnyH_ready (rs := [6]) (by kernel_rfl) (by simp) (AllReadyH.cons (by rw [List.getElem?_toArray]; exact rfl) (fun K9 hK9 => ?_) AllReadyH.nil)
              have z0 := QA.out.at_ 0 _ rfl
              have z1 := QA.out.at_ 1 _ rfl
              have z2 := QA.out.at_ 2 _ rfl
              have z3 := QA.out.at_ 3 _ rfl
              have z4 := QA.out.at_ 4 _ rfl
              have z5 := QA.out.at_ 5 _ rfl
              have z6 := QA.out.at_ 6 _ rfl
              have z7 := QA.out.at_ 7 _ rfl
              have z8 := QA.out.at_ 8 _ rfl
              have z9 := QA.out.at_ 9 _ rfl
              have z10 := QA.out.at_ 10 _ rfl
              have y0 := QA.out.free 0
              have y1 := QA.out.free 1
              have y2 := QA.out.free 2
              have y3 := QA.out.free 3
              have y4 := QA.out.free 4
              have y5 := QA.out.free 5
              have y6 := QA.out.free 6
              have y7 := QA.out.free 7
              have y8 := QA.out.free 8
              have y9 := QA.out.free 9
              have y10 := QA.out.free 10
              go_simp
              have PP := Lib.hid (putN (vs := [.string a0, .string a1, .int .i64 a2, .slice xs1 xm1 xc1, .slice xs2 xm2 xc2, .slice xs3 xm3 xc3, .slice xs4 xm4 xc4, .string a3, .int .i64 a4, .string a5, .bool a6]) QA.out rfl)
              obtain ⟨ww17, hnw⟩ : ∃ W, ww15.setCells p 0 [.string a0, .string a1, .int .i64 a2, .slice xs1 xm1 xc1, .slice xs2 xm2 xc2, .slice xs3 xm3 xc3, .slice xs4 xm4 xc4, .string a3, .int .i64 a4, .string a5, .bool a6] = W := ⟨_, rfl⟩
              have hnw2 : (((((((((((ww15.setCell ⟨p, 0, none⟩ (.string a0)).setCell ⟨p, 1, none⟩ (.string a1)).setCell ⟨p, 2, none⟩ (.int .i64 a2)).setCell ⟨p, 3, none⟩ (.slice xs1 xm1 xc1)).setCell ⟨p, 4, none⟩ (.slice xs2 xm2 xc2)).setCell ⟨p, 5, none⟩ (.slice xs3 xm3 xc3)).setCell ⟨p, 6, none⟩ (.slice xs4 xm4 xc4)).setCell ⟨p, 7, none⟩ (.string a3)).setCell ⟨p, 8, none⟩ (.int .i64 a4)).setCell ⟨p, 9, none⟩ (.string a5)).setCell ⟨p, 10, none⟩ (.bool a6)) = ww17 := hnw
              rw [hnw] at PP
              rw [hnw2]
              clear hnw hnw2 z0 y0 z1 y1 z2 y2 z3 y3 z4 y4 z5 y5 z6 y6 z7 y7 z8 y8 z9 y9 z10 y10
              have ZA := Lib.hid (pod_past ZA.out PP.out.size PP.out.far NAp.out)
              have ZB := Lib.hid (pod_past ZB.out PP.out.size PP.out.far NBp.out)
              have QB := Lib.hid (QB.out.block (PP.out.far q (fun e => hpq e.symm)))
              have KK := Lib.hid (show Kept w1 ww17 from PP.out.below _ _ HAP.out KK.out)
              have QA := Lib.hid PP.out.cells
              clear PP
              refine hK9.out _ _ KK.out (fun hHeld18 => ?_)
              clear hK9 K9
              try simp only [Act.put, List.setIfInBounds_toArray, List.set_cons_zero, List.set_cons_succ]
              refine wpAnyH_ready (rs := [7]) (by kernel_rfl) (by simp) (AllReadyH.cons (by rw [List.getElem?_toArray]; exact rfl) (fun K9 hK9 => ?_) AllReadyH.nil)
              have z0 := QB.out.at_ 0 _ rfl
              have z1 := QB.out.at_ 1 _ rfl
              have z2 := QB.out.at_ 2 _ rfl
              have z3 := QB.out.at_ 3 _ rfl
              have z4 := QB.out.at_ 4 _ rfl
              have z5 := QB.out.at_ 5 _ rfl
              have z6 := QB.out.at_ 6 _ rfl
              have z7 := QB.out.at_ 7 _ rfl
              have z8 := QB.out.at_ 8 _ rfl
              have z9 := QB.out.at_ 9 _ rfl
              have z10 := QB.out.at_ 10 _ rfl
              have y0 := QB.out.free 0
              have y1 := QB.out.free 1
              have y2 := QB.out.free 2
              have y3 := QB.out.free 3
              have y4 := QB.out.free 4
              have y5 := QB.out.free 5
              have y6 := QB.out.free 6
              have y7 := QB.out.free 7
              have y8 := QB.out.free 8
              have y9 := QB.out.free 9
              have y10 := QB.out.free 10
              go_simp
              have PP := Lib.hid (putN (vs := [.string b0, .string b1, .int .i64 b2, .slice ys1 ym1 yc1, .slice ys2 ym2 yc2, .slice ys3 ym3 yc3, .slice ys4 ym4 yc4, .string b3, .int .i64 b4, .string b5, .bool b6]) QB.out rfl)
              obtain ⟨ww19, hnw⟩ : ∃ W, ww17.setCells q 0 [.string b0, .string b1, .int .i64 b2, .slice ys1 ym1 yc1, .slice ys2 ym2 yc2, .slice ys3 ym3 yc3, .slice ys4 ym4 yc4, .string b3, .int .i64 b4, .string b5, .bool b6] = W := ⟨_, rfl⟩
              have hnw2 : (((((((((((ww17.setCell ⟨q, 0, none⟩ (.string b0)).setCell ⟨q, 1, none⟩ (.string b1)).setCell ⟨q, 2, none⟩ (.int .i64 b2)).setCell ⟨q, 3, none⟩ (.slice ys1 ym1 yc1)).setCell ⟨q, 4, none⟩ (.slice ys2 ym2 yc2)).setCell ⟨q, 5, none⟩ (.slice ys3 ym3 yc3)).setCell ⟨q, 6, none⟩ (.slice ys4 ym4 yc4)).setCell ⟨q, 7, none⟩ (.string b3)).setCell ⟨q, 8, none⟩ (.int .i64 b4)).setCell ⟨q, 9, none⟩ (.string b5)).setCell ⟨q, 10, none⟩ (.bool b6)) = ww19 := hnw
              rw [hnw] at PP
              rw [hnw2]
              clear hnw hnw2 z0 y0 z1 y1 z2 y2 z3 y3 z4 y4 z5 y5 z6 y6 z7 y7 z8 y8 z9 y9 z10 y10
              have ZA := Lib.hid (pod_past ZA.out PP.out.size PP.out.far NAq.out)
              have ZB := Lib.hid (pod_past ZB.out PP.out.size PP.out.far NBq.out)
              have QA := Lib.hid (QA.out.block (PP.out.far p hpq))
              have KK := Lib.hid (show Kept w1 ww19 from PP.out.below _ _ HBP.out KK.out)
              have QB := Lib.hid PP.out.cells
              clear PP
              refine hK9.out _ _ KK.out (fun hHeld20 => ?_)
              clear hK9 K9
              try simp only [Act.put, List.setIfInBounds_toArray, List.set_cons_zero, List.set_cons_succ]
              refine wpAnyH_done (by kernel_rfl) ?_ _
              go_wp2
              go_meet
              case rel => exact ⟨p, q, rfl, rfl, xs1, xm1, xc1, xs2, xm2, xc2, xs3, xm3, xc3, xs4, xm4, xc4, ys1, ym1, yc1, ys2, ym2, yc2, ys3, ym3, yc3, ys4, ym4, yc4, QA.out, QB.out, ZA.out, ZB.out, KK.out⟩
          · skip
            go_simp
            have k := kept_alloc ww1 (.cells #[.string ⟨#[]⟩, .string ⟨#[]⟩, .int .i64 0, .slice none 0 0, .slice none 0 0, .slice none 0 0, .slice none 0 0, .string ⟨#[]⟩, .int .i64 0, .string ⟨#[]⟩, .bool false] 38)
            have hn := freshN ww1 (.string ⟨#[]⟩) [.string ⟨#[]⟩, .int .i64 0, .slice none 0 0, .slice none 0 0, .slice none 0 0, .slice none 0 0, .string ⟨#[]⟩, .int .i64 0, .string ⟨#[]⟩, .bool false] 38 _ (Kept.refl _)
            have hp9 : w1.heap.size ≤ ww1.heap.size := KK.out.size
            have nA := WA.out.hi_not (Nat.le_refl ww1.heap.size)
            obtain ⟨p, hpe⟩ : ∃ z, ww1.heap.size = z := ⟨_, rfl⟩
            rw [hpe] at hn hp9 nA ⊢
            have NAp := Lib.hid nA
            clear nA
            obtain ⟨ww21, hnw⟩ : ∃ W, ww1.alloc (.cells #[.string ⟨#[]⟩, .string ⟨#[]⟩, .int .i64 0, .slice none 0 0, .slice none 0 0, .slice none 0 0, .slice none 0 0, .string ⟨#[]⟩, .int .i64 0, .string ⟨#[]⟩, .bool false] 38) = W := ⟨_, rfl⟩
            rw [hnw] at hn k ⊢
            clear hnw hpe
            have KK := Lib.hid (KK.out.trans k)
            have ZA := Lib.hid (ZA.out.kept k)
            have WA := Lib.hid (WA.out.up k.size)
            have QA := Lib.hid hn
            have HAP := Lib.hid hp9
            clear hn k hp9
            refine hK9.out _ _ KK.out (fun hHeld22 => ?_)
            clear hK9 K9
            try simp only [Act.put, List.setIfInBounds_toArray, List.set_cons_zero, List.set_cons_succ]
            refine wpAnyH_ready (rs := [3, 5]) (by kernel_rfl) (by simp) (AllReadyH.cons (by rw [List.getElem?_toArray]; exact rfl) (fun K9 hK9 => ?_) (AllReadyH.cons (by rw [List.getElem?_toArray]; exact rfl) (fun K9 hK9 => ?_) AllReadyH.nil))
            · skip
              go_simp
              refine (HOB.out _ KK.out).mono ?_
              rintro e9 ww23 ⟨ys1, ym1, yc1, ys2, ym2, yc2, ys3, ym3, yc3, ys4, ym4, yc4, rfl, hz, hw, k⟩
              have KK := Lib.hid (KK.out.trans k)
              have NBp := Lib.hid (hw.lo_not QA.out.lt)
              have ZA := Lib.hid (ZA.out.kept k)
              have WA := Lib.hid (WA.out.up k.size)
              have QA := Lib.hid (CellsN.kept QA.out k)
              have ZB := Lib.hid hz
              have WB := Lib.hid hw
              clear hz hw k
              refine hK9.out _ _ KK.out (fun hHeld24 => ?_)
              clear hK9 K9
              try simp only [Act.put, List.setIfInBounds_toArray, List.set_cons_zero, List.set_cons_succ]
              refine wpAnyH_ready (rs := [5]) (by kernel_rfl) (by simp) (AllReadyH.cons (by rw [List.getElem?_toArray]; exact rfl) (fun K9 hK9 => ?_) AllReadyH.nil)
              go_simp
              have k := kept_alloc ww23 (.cells #[.string ⟨#[]⟩, .string ⟨#[]⟩, .int .i64 0, .slice none 0 0, .slice none 0 0, .slice none 0 0, .slice none 0 0, .string ⟨#[]⟩, .int .i64 0, .string ⟨#[]⟩, .bool false] 38)
              have hn := freshN ww23 (.string ⟨#[]⟩) [.string ⟨#[]⟩, .int .i64 0, .slice none 0 0, .slice none 0 0, .slice none 0 0, .slice none 0 0, .string ⟨#[]⟩, .int .i64 0, .string ⟨#[]⟩, .bool false] 38 _ (Kept.refl _)
              have hp9 : w1.heap.size ≤ ww23.heap.size := KK.out.size
              have hpq : p ≠ ww23.heap.size := by have := QA.out.lt; omega
              have nA := WA.out.hi_not (Nat.le_refl ww23.heap.size)
              have nB := WB.out.hi_not (Nat.le_refl ww23.heap.size)
              obtain ⟨q, hqe⟩ : ∃ z, ww23.heap.size = z := ⟨_, rfl⟩
              rw [hqe] at hn hp9 hpq nA nB ⊢
              have NAq := Lib.hid nA
              clear nA
              have NBq := Lib.hid nB
              clear nB
              obtain ⟨ww25, hnw⟩ : ∃ W, ww23.alloc (.cells #[.string ⟨#[]⟩, .string ⟨#[]⟩, .int .i64 0, .slice none 0 0, .slice none 0 0, .slice none 0 0, .slice none 0 0, .string ⟨#[]⟩, .int .i64 0, .string ⟨#[]⟩, .bool false] 38) = W := ⟨_, rfl⟩
              rw [hnw] at hn k ⊢
              clear hnw hqe
              have KK := Lib.hid (KK.out.trans k)
              have ZA := Lib.hid (ZA.out.kept k)
              have WA := Lib.hid (WA.out.up k.size)
              have ZB := Lib.hid (ZB.out.kept k)
              have WB := Lib.hid (WB.out.up k.size)
              have QA := Lib.hid (CellsN.kept QA.out k)
              have QB := Lib.hid hn
              have HBP := Lib.hid hp9
              clear hn k hp9
              refine hK9.out _ _ KK.out (fun hHeld26 => ?_)
              clear hK9 K9
              try simp only [Act.put, List.setIfInBounds_toArray, List.set_cons_zero, List.set_cons_succ]
              refine wpAnyH_ready (rs := [6]) (by kernel_rfl) (by simp) (AllReadyH.cons (by rw [List.getElem?_toArray]; exact rfl) (fun K9 hK9 => ?_) AllReadyH.nil)
              have z0 := QA.out.at_ 0 _ rfl
              have z1 := QA.out.at_ 1 _ rfl
              have z2 := QA.out.at_ 2 _ rfl
              have z3 := QA.out.at_ 3 _ rfl
              have z4 := QA.out.at_ 4 _ rfl
              have z5 := QA.out.at_ 5 _ rfl
              have z6 := QA.out.at_ 6 _ rfl
              have z7 := QA.out.at_ 7 _ rfl
              have z8 := QA.out.at_ 8 _ rfl
              have z9 := QA.out.at_ 9 _ rfl
              have z10 := QA.out.at_ 10 _ rfl
              have y0 := QA.out.free 0
              have y1 := QA.out.free 1
              have y2 := QA.out.free 2
              have y3 := QA.out.free 3
              have y4 := QA.out.free 4
              have y5 := QA.out.free 5
              have y6 := QA.out.free 6
              have y7 := QA.out.free 7
              have y8 := QA.out.free 8
              have y9 := QA.out.free 9
              have y10 := QA.out.free 10
              go_simp
              have PP := Lib.hid (putN (vs := [.string a0, .string a1, .int .i64 a2, .slice xs1 xm1 xc1, .slice xs2 xm2 xc2, .slice xs3 xm3 xc3, .slice xs4 xm4 xc4, .string a3, .int .i64 a4, .string a5, .bool a6]) QA.out rfl)
              obtain ⟨ww27, hnw⟩ : ∃ W, ww25.setCells p 0 [.string a0, .string a1, .int .i64 a2, .slice xs1 xm1 xc1, .slice xs2 xm2 xc2, .slice xs3 xm3 xc3, .slice xs4 xm4 xc4, .string a3, .int .i64 a4, .string a5, .bool a6] = W := ⟨_, rfl⟩
              have hnw2 : (((((((((((ww25.setCell ⟨p, 0, none⟩ (.string a0)).setCell ⟨p, 1, none⟩ (.string a1)).setCell ⟨p, 2, none⟩ (.int .i64 a2)).setCell ⟨p, 3, none⟩ (.slice xs1 xm1 xc1)).setCell ⟨p, 4, none⟩ (.slice xs2 xm2 xc2)).setCell ⟨p, 5, none⟩ (.slice xs3 xm3 xc3)).setCell ⟨p, 6, none⟩ (.slice xs4 xm4 xc4)).setCell ⟨p, 7, none⟩ (.string a3)).setCell ⟨p, 8, none⟩ (.int .i64 a4)).setCell ⟨p, 9, none⟩ (.string a5)).setCell ⟨p, 10, none⟩ (.bool a6)) = ww27 := hnw
              rw [hnw] at PP
              rw [hnw2]
              clear hnw hnw2 z0 y0 z1 y1 z2 y2 z3 y3 z4 y4 z5 y5 z6 y6 z7 y7 z8 y8 z9 y9 z10 y10
              have ZA := Lib.hid (pod_past ZA.out PP.out.size PP.out.far NAp.out)
              have ZB := Lib.hid (pod_past ZB.out PP.out.size PP.out.far NBp.out)
              have QB := Lib.hid (QB.out.block (PP.out.far q (fun e => hpq e.symm)))
              have KK := Lib.hid (show Kept w1 ww27 from PP.out.below _ _ HAP.out KK.out)
              have QA := Lib.hid PP.out.cells
              clear PP
              refine hK9.out _ _ KK.out (fun hHeld28 => ?_)
              clear hK9 K9
              try simp only [Act.put, List.setIfInBounds_toArray, List.set_cons_zero, List.set_cons_succ]
              refine wpAnyH_ready (rs := [7]) (by kernel_rfl) (by simp) (AllReadyH.cons (by rw [List.getElem?_toArray]; exact rfl) (fun K9 hK9 => ?_) AllReadyH.nil)
              have z0 := QB.out.at_ 0 _ rfl
              have z1 := QB.out.at_ 1 _ rfl
              have z2 := QB.out.at_ 2 _ rfl
              have z3 := QB.out.at_ 3 _ rfl
              have z4 := QB.out.at_ 4 _ rfl
              have z5 := QB.out.at_ 5 _ rfl
              have z6 := QB.out.at_ 6 _ rfl
              have z7 := QB.out.at_ 7 _ rfl
              have z8 := QB.out.at_ 8 _ rfl
              have z9 := QB.out.at_ 9 _ rfl
              have z10 := QB.out.at_ 10 _ rfl
              have y0 := QB.out.free 0
              have y1 := QB.out.free 1
              have y2 := QB.out.free 2
              have y3 := QB.out.free 3
              have y4 := QB.out.free 4
              have y5 := QB.out.free 5
              have y6 := QB.out.free 6
              have y7 := QB.out.free 7
              have y8 := QB.out.free 8
              have y9 := QB.out.free 9
              have y10 := QB.out.free 10
              go_simp
              have PP := Lib.hid (putN (vs := [.string b0, .string b1, .int .i64 b2, .slice ys1 ym1 yc1, .slice ys2 ym2 yc2, .slice ys3 ym3 yc3, .slice ys4 ym4 yc4, .string b3, .int .i64 b4, .string b5, .bool b6]) QB.out rfl)
              obtain ⟨ww29, hnw⟩ : ∃ W, ww27.setCells q 0 [.string b0, .string b1, .int .i64 b2, .slice ys1 ym1 yc1, .slice ys2 ym2 yc2, .slice ys3 ym3 yc3, .slice ys4 ym4 yc4, .string b3, .int .i64 b4, .string b5, .bool b6] = W := ⟨_, rfl⟩
              have hnw2 : (((((((((((ww27.setCell ⟨q, 0, none⟩ (.string b0)).setCell ⟨q, 1, none⟩ (.string b1)).setCell ⟨q, 2, none⟩ (.int .i64 b2)).setCell ⟨q, 3, none⟩ (.slice ys1 ym1 yc1)).setCell ⟨q, 4, none⟩ (.slice ys2 ym2 yc2)).setCell ⟨q, 5, none⟩ (.slice ys3 ym3 yc3)).setCell ⟨q, 6, none⟩ (.slice ys4 ym4 yc4)).setCell ⟨q, 7, none⟩ (.string b3)).setCell ⟨q, 8, none⟩ (.int .i64 b4)).setCell ⟨q, 9, none⟩ (.string b5)).setCell ⟨q, 10, none⟩ (.bool b6)) = ww29 := hnw
              rw [hnw] at PP
              rw [hnw2]
              clear hnw hnw2 z0 y0 z1 y1 z2 y2 z3 y3 z4 y4 z5 y5 z6 y6 z7 y7 z8 y8 z9 y9 z10 y10
              have ZA := Lib.hid (pod_past ZA.out PP.out.size PP.out.far NAq.out)
              have ZB := Lib.hid (pod_past ZB.out PP.out.size PP.out.far NBq.out)
              have QA := Lib.hid (QA.out.block (PP.out.far p hpq))
              have KK := Lib.hid (show Kept w1 ww29 from PP.out.below _ _ HBP.out KK.out)
              have QB := Lib.hid PP.out.cells
              clear PP
              refine hK9.out _ _ KK.out (fun hHeld30 => ?_)
              clear hK9 K9
              try simp only [Act.put, List.setIfInBounds_toArray, List.set_cons_zero, List.set_cons_succ]
              refine wpAnyH_done (by kernel_rfl) ?_ _
              go_wp2
              go_meet
              case rel => exact ⟨p, q, rfl, rfl, xs1, xm1, xc1, xs2, xm2, xc2, xs3, xm3, xc3, xs4, xm4, xc4, ys1, ym1, yc1, ys2, ym2, yc2, ys3, ym3, yc3, ys4, ym4, yc4, QA.out, QB.out, ZA.out, ZB.out, KK.out⟩
            · skip
              go_simp
              have k := kept_alloc ww21 (.cells #[.string ⟨#[]⟩, .string ⟨#[]⟩, .int .i64 0, .slice none 0 0, .slice none 0 0, .slice none 0 0, .slice none 0 0, .string ⟨#[]⟩, .int .i64 0, .string ⟨#[]⟩, .bool false] 38)
              have hn := freshN ww21 (.string ⟨#[]⟩) [.string ⟨#[]⟩, .int .i64 0, .slice none 0 0, .slice none 0 0, .slice none 0 0, .slice none 0 0, .string ⟨#[]⟩, .int .i64 0, .string ⟨#[]⟩, .bool false] 38 _ (Kept.refl _)
              have hp9 : w1.heap.size ≤ ww21.heap.size := KK.out.size
              have hpq : p ≠ ww21.heap.size := by have := QA.out.lt; omega
              have nA := WA.out.hi_not (Nat.le_refl ww21.heap.size)
              obtain ⟨q, hqe⟩ : ∃ z, ww21.heap.size = z := ⟨_, rfl⟩
              rw [hqe] at hn hp9 hpq nA ⊢
              have NAq := Lib.hid nA
              clear nA
              obtain ⟨ww31, hnw⟩ : ∃ W, ww21.alloc (.cells #[.string ⟨#[]⟩, .string ⟨#[]⟩, .int .i64 0, .slice none 0 0, .slice none 0 0, .slice none 0 0, .slice none 0 0, .string ⟨#[]⟩, .int .i64 0, .string ⟨#[]⟩, .bool false] 38) = W := ⟨_, rfl⟩
              rw [hnw] at hn k ⊢
              clear hnw hqe
              have KK := Lib.hid (KK.out.trans k)
              have ZA := Lib.hid (ZA.out.kept k)
              have WA := Lib.hid (WA.out.up k.size)
              have QA := Lib.hid (CellsN.kept QA.out k)
              have QB := Lib.hid hn
              have HBP := Lib.hid hp9
              clear hn k hp9
              refine hK9.out _ _ KK.out (fun hHeld32 => ?_)
              clear hK9 K9
              try simp only [Act.put, List.setIfInBounds_toArray, List.set_cons_zero, List.set_cons_succ]
              refine wpAnyH_ready (rs := [3]) (by kernel_rfl) (by simp) (AllReadyH.cons (by rw [List.getElem?_toArray]; exact rfl) (fun K9 hK9 => ?_) AllReadyH.nil)
              go_simp
              refine (HOB.out _ KK.out).mono ?_
              rintro e9 ww33 ⟨ys1, ym1, yc1, ys2, ym2, yc2, ys3, ym3, yc3, ys4, ym4, yc4, rfl, hz, hw, k⟩
              have KK := Lib.hid (KK.out.trans k)
              have NBp := Lib.hid (hw.lo_not QA.out.lt)
              have NBq := Lib.hid (hw.lo_not QB.out.lt)
              have ZA := Lib.hid (ZA.out.kept k)
              have WA := Lib.hid (WA.out.up k.size)
              have QA := Lib.hid (CellsN.kept QA.out k)
              have QB := Lib.hid (CellsN.kept QB.out k)
              have ZB := Lib.hid hz
              have WB := Lib.hid hw
              clear hz hw k
              refine hK9.out _ _ KK.out (fun hHeld34 => ?_)
              clear hK9 K9
              try simp only [Act.put, List.setIfInBounds_toArray, List.set_cons_zero, List.set_cons_succ]
              refine wpAnyH_ready (rs := [6]) (by kernel_rfl) (by simp) (AllReadyH.cons (by rw [List.getElem?_toArray]; exact rfl) (fun K9 hK9 => ?_) AllReadyH.nil)
              have z0 := QA.out.at_ 0 _ rfl
              have z1 := QA.out.at_ 1 _ rfl
              have z2 := QA.out.at_ 2 _ rfl
              have z3 := QA.out.at_ 3 _ rfl
              have z4 := QA.out.at_ 4 _ rfl
              have z5 := QA.out.at_ 5 _ rfl
              have z6 := QA.out.at_ 6 _ rfl
              have z7 := QA.out.at_ 7 _ rfl
              have z8 := QA.out.at_ 8 _ rfl
              have z9 := QA.out.at_ 9 _ rfl
              have z10 := QA.out.at_ 10 _ rfl
              have y0 := QA.out.free 0
              have y1 := QA.out.free 1
              have y2 := QA.out.free 2
              have y3 := QA.out.free 3
              have y4 := QA.out.free 4
              have y5 := QA.out.free 5
              have y6 := QA.out.free 6
              have y7 := QA.out.free 7
              have y8 := QA.out.free 8
              have y9 := QA.out.free 9
              have y10 := QA.out.free 10
              go_simp
              have PP := Lib.hid (putN (vs := [.string a0, .string a1, .int .i64 a2, .slice xs1 xm1 xc1, .slice xs2 xm2 xc2, .slice xs3 xm3 xc3, .slice xs4 xm4 xc4, .string a3, .int .i64 a4, .string a5, .bool a6]) QA.out rfl)
              obtain ⟨ww35, hnw⟩ : ∃ W, ww33.setCells p 0 [.string a0, .string a1, .int .i64 a2, .slice xs1 xm1 xc1, .slice xs2 xm2 xc2, .slice xs3 xm3 xc3, .slice xs4 xm4 xc4, .string a3, .int .i64 a4, .string a5, .bool a6] = W := ⟨_, rfl⟩
              have hnw2 : (((((((((((ww33.setCell ⟨p, 0, none⟩ (.string a0)).setCell ⟨p, 1, none⟩ (.string a1)).setCell ⟨p, 2, none⟩ (.int .i64 a2)).setCell ⟨p, 3, none⟩ (.slice xs1 xm1 xc1)).setCell ⟨p, 4, none⟩ (.slice xs2 xm2 xc2)).setCell ⟨p, 5, none⟩ (.slice xs3 xm3 xc3)).setCell ⟨p, 6, none⟩ (.slice xs4 xm4 xc4)).setCell ⟨p, 7, none⟩ (.string a3)).setCell ⟨p, 8, none⟩ (.int .i64 a4)).setCell ⟨p, 9, none⟩ (.string a5)).setCell ⟨p, 10, none⟩ (.bool a6)) = ww35 := hnw
              rw [hnw] at PP
              rw [hnw2]
              clear hnw hnw2 z0 y0 z1 y1 z2 y2 z3 y3 z4 y4 z5 y5 z6 y6 z7 y7 z8 y8 z9 y9 z10 y10
              have ZA := Lib.hid (pod_past ZA.out PP.out.size PP.out.far NAp.out)
              have ZB := Lib.hid (pod_past ZB.out PP.out.size PP.out.far NBp.out)
              have QB := Lib.hid (QB.out.block (PP.out.far q (fun e => hpq e.symm)))
              have KK := Lib.hid (show Kept w1 ww35 from PP.out.below _ _ HAP.out KK.out)
              have QA := Lib.hid PP.out.cells
              clear PP
              refine hK9.out _ _ KK.out (fun hHeld36 => ?_)
              clear hK9 K9
              try simp only [Act.put, List.setIfInBounds_toArray, List.set_cons_zero, List.set_cons_succ]
              refine wpAnyH_ready (rs := [7]) (by kernel_rfl) (by simp) (AllReadyH.cons (by rw [List.getElem?_toArray]; exact rfl) (fun K9 hK9 => ?_) AllReadyH.nil)
              have z0 := QB.out.at_ 0 _ rfl
              have z1 := QB.out.at_ 1 _ rfl
              have z2 := QB.out.at_ 2 _ rfl
              have z3 := QB.out.at_ 3 _ rfl
              have z4 := QB.out.at_ 4 _ rfl
              have z5 := QB.out.at_ 5 _ rfl
              have z6 := QB.out.at_ 6 _ rfl
              have z7 := QB.out.at_ 7 _ rfl
              have z8 := QB.out.at_ 8 _ rfl
              have z9 := QB.out.at_ 9 _ rfl
              have z10 := QB.out.at_ 10 _ rfl
              have y0 := QB.out.free 0
              have y1 := QB.out.free 1
              have y2 := QB.out.free 2
              have y3 := QB.out.free 3
              have y4 := QB.out.free 4
              have y5 := QB.out.free 5
              have y6 := QB.out.free 6
              have y7 := QB.out.free 7
              have y8 := QB.out.free 8
              have y9 := QB.out.free 9
              have y10 := QB.out.free 10
              go_simp
              have PP := Lib.hid (putN (vs := [.string b0, .string b1, .int .i64 b2, .slice ys1 ym1 yc1, .slice ys2 ym2 yc2, .slice ys3 ym3 yc3, .slice ys4 ym4 yc4, .string b3, .int .i64 b4, .string b5, .bool b6]) QB.out rfl)
              obtain ⟨ww37, hnw⟩ : ∃ W, ww35.setCells q 0 [.string b0, .string b1, .int .i64 b2, .slice ys1 ym1 yc1, .slice ys2 ym2 yc2, .slice ys3 ym3 yc3, .slice ys4 ym4 yc4, .string b3, .int .i64 b4, .string b5, .bool b6] = W := ⟨_, rfl⟩
              have hnw2 : (((((((((((ww35.setCell ⟨q, 0, none⟩ (.string b0)).setCell ⟨q, 1, none⟩ (.string b1)).setCell ⟨q, 2, none⟩ (.int .i64 b2)).setCell ⟨q, 3, none⟩ (.slice ys1 ym1 yc1)).setCell ⟨q, 4, none⟩ (.slice ys2 ym2 yc2)).setCell ⟨q, 5, none⟩ (.slice ys3 ym3 yc3)).setCell ⟨q, 6, none⟩ (.slice ys4 ym4 yc4)).setCell ⟨q, 7, none⟩ (.string b3)).setCell ⟨q, 8, none⟩ (.int .i64 b4)).setCell ⟨q, 9, none⟩ (.string b5)).setCell ⟨q, 10, none⟩ (.bool b6)) = ww37 := hnw
              rw [hnw] at PP
              rw [hnw2]
              clear hnw hnw2 z0 y0 z1 y1 z2 y2 z3 y3 z4 y4 z5 y5 z6 y6 z7 y7 z8 y8 z9 y9 z10 y10
              have ZA := Lib.hid (pod_past ZA.out PP.out.size PP.out.far NAq.out)
              have ZB := Lib.hid (pod_past ZB.out PP.out.size PP.out.far NBq.out)
              have QA := Lib.hid (QA.out.block (PP.out.far p hpq))
              have KK := Lib.hid (show Kept w1 ww37 from PP.out.below _ _ HBP.out KK.out)
              have QB := Lib.hid PP.out.cells
              clear PP
              refine hK9.out _ _ KK.out (fun hHeld38 => ?_)
              clear hK9 K9
              try simp only [Act.put, List.setIfInBounds_toArray, List.set_cons_zero, List.set_cons_succ]
              refine wpAnyH_done (by kernel_rfl) ?_ _
              go_wp2
              go_meet
              case rel => exact ⟨p, q, rfl, rfl, xs1, xm1, xc1, xs2, xm2, xc2, xs3, xm3, xc3, xs4, xm4, xc4, ys1, ym1, yc1, ys2, ym2, yc2, ys3, ym3, yc3, ys4, ym4, yc4, QA.out, QB.out, ZA.out, ZB.out, KK.out⟩
          · skip
            go_simp
            have k := kept_alloc ww1 (.cells #[.string ⟨#[]⟩, .string ⟨#[]⟩, .int .i64 0, .slice none 0 0, .slice none 0 0, .slice none 0 0, .slice none 0 0, .string ⟨#[]⟩, .int .i64 0, .string ⟨#[]⟩, .bool false] 38)
            have hn := freshN ww1 (.string ⟨#[]⟩) [.string ⟨#[]⟩, .int .i64 0, .slice none 0 0, .slice none 0 0, .slice none 0 0, .slice none 0 0, .string ⟨#[]⟩, .int .i64 0, .string ⟨#[]⟩, .bool false] 38 _ (Kept.refl _)
            have hp9 : w1.heap.size ≤ ww1.heap.size := KK.out.size
            have nA := WA.out.hi_not (Nat.le_refl ww1.heap.size)
            obtain ⟨q, hqe⟩ : ∃ z, ww1.heap.size = z := ⟨_, rfl⟩
            rw [hqe] at hn hp9 nA ⊢
            have NAq := Lib.hid nA
            clear nA
            obtain ⟨ww39, hnw⟩ : ∃ W, ww1.alloc (.cells #[.string ⟨#[]⟩, .string ⟨#[]⟩, .int .i64 0, .slice none 0 0, .slice none 0 0, .slice none 0 0, .slice none 0 0, .string ⟨#[]⟩, .int .i64 0, .string ⟨#[]⟩, .bool false] 38) = W := ⟨_, rfl⟩
            rw [hnw] at hn k ⊢
            clear hnw hqe
            have KK := Lib.hid (KK.out.trans k)
            have ZA := Lib.hid (ZA.out.kept k)
            have WA := Lib.hid (WA.out.up k.size)
            have QB := Lib.hid hn
            have HBP := Lib.hid hp9
            clear hn k hp9
            refine hK9.out _ _ KK.out (fun hHeld40 => ?_)
            clear hK9 K9
            try simp only [Act.put, List.setIfInBounds_toArray, List.set_cons_zero, List.set_cons_succ]
            refine wpAnyH_ready (rs := [3, 4]) (by kernel_rfl) (by simp) (AllReadyH.cons (by rw [List.getElem?_toArray]; exact rfl) (fun K9 hK9 => ?_) (AllReadyH.cons (by rw [List.getElem?_toArray]; exact rfl) (fun K9 hK9 => ?_) AllReadyH.nil))
            · skip
              go_simp
              refine (HOB.out _ KK.out).mono ?_
              rintro e9 ww41 ⟨ys1, ym1, yc1, ys2, ym2, yc2, ys3, ym3, yc3, ys4, ym4, yc4, rfl, hz, hw, k⟩
              have KK := Lib.hid (KK.out.trans k)
              have NBq := Lib.hid (hw.lo_not QB.out.lt)
              have ZA := Lib.hid (ZA.out.kept k)
              have WA := Lib.hid (WA.out.up k.size)
              have QB := Lib.hid (CellsN.kept QB.out k)
              have ZB := Lib.hid hz
              have WB := Lib.hid hw
              clear hz hw k
              refine hK9.out _ _ KK.out (fun hHeld42 => ?_)
              clear hK9 K9
              try simp only [Act.put, List.setIfInBounds_toArray, List.set_cons_zero, List.set_cons_succ]
              refine wpAnyH_ready (rs := [4]) (by kernel_rfl) (by simp) (AllReadyH.cons (by rw [List.getElem?_toArray]; exact rfl) (fun K9 hK9 => ?_) AllReadyH.nil)
              go_simp
              have k := kept_alloc ww41 (.cells #[.string ⟨#[]⟩, .string ⟨#[]⟩, .int .i64 0, .slice none 0 0, .slice none 0 0, .slice none 0 0, .slice none 0 0, .string ⟨#[]⟩, .int .i64 0, .string ⟨#[]⟩, .bool false] 38)
              have hn := freshN ww41 (.string ⟨#[]⟩) [.string ⟨#[]⟩, .int .i64 0, .slice none 0 0, .slice none 0 0, .slice none 0 0, .slice none 0 0, .string ⟨#[]⟩, .int .i64 0, .string ⟨#[]⟩, .bool false] 38 _ (Kept.refl _)
              have hp9 : w1.heap.size ≤ ww41.heap.size := KK.out.size
              have hpq : ww41.heap.size ≠ q := by have := QB.out.lt; omega
              have nA := WA.out.hi_not (Nat.le_refl ww41.heap.size)
              have nB := WB.out.hi_not (Nat.le_refl ww41.heap.size)
              obtain ⟨p, hpe⟩ : ∃ z, ww41.heap.size = z := ⟨_, rfl⟩
              rw [hpe] at hn hp9 hpq nA nB ⊢
              have NAp := Lib.hid nA
              clear nA
              have NBp := Lib.hid nB
              clear nB
              obtain ⟨ww43, hnw⟩ : ∃ W, ww41.alloc (.cells #[.string ⟨#[]⟩, .string ⟨#[]⟩, .int .i64 0, .slice none 0 0, .slice none 0 0, .slice none 0 0, .slice none 0 0, .string ⟨#[]⟩, .int .i64 0, .string ⟨#[]⟩, .bool false] 38) = W := ⟨_, rfl⟩
              rw [hnw] at hn k ⊢
              clear hnw hpe
              have KK := Lib.hid (KK.out.trans k)
              have ZA := Lib.hid (ZA.out.kept k)
              have WA := Lib.hid (WA.out.up k.size)
              have ZB := Lib.hid (ZB.out.kept k)
              have WB := Lib.hid (WB.out.up k.size)
              have QB := Lib.hid (CellsN.kept QB.out k)
              have QA := Lib.hid hn
              have HAP := Lib.hid hp9
              clear hn k hp9
              refine hK9.out _ _ KK.out (fun hHeld44 => ?_)
              clear hK9 K9
              try simp only [Act.put, List.setIfInBounds_toArray, List.set_cons_zero, List.set_cons_succ]
              refine wpAnyH_ready (rs := [6]) (by kernel_rfl) (by simp) (AllReadyH.cons (by rw [List.getElem?_toArray]; exact rfl) (fun K9 hK9 => ?_) AllReadyH.nil)
              have z0 := QA.out.at_ 0 _ rfl
              have z1 := QA.out.at_ 1 _ rfl
              have z2 := QA.out.at_ 2 _ rfl
              have z3 := QA.out.at_ 3 _ rfl
              have z4 := QA.out.at_ 4 _ rfl
              have z5 := QA.out.at_ 5 _ rfl
              have z6 := QA.out.at_ 6 _ rfl
              have z7 := QA.out.at_ 7 _ rfl
              have z8 := QA.out.at_ 8 _ rfl
              have z9 := QA.out.at_ 9 _ rfl
              have z10 := QA.out.at_ 10 _ rfl
              have y0 := QA.out.free 0
              have y1 := QA.out.free 1
              have y2 := QA.out.free 2
              have y3 := QA.out.free 3
              have y4 := QA.out.free 4
              have y5 := QA.out.free 5
              have y6 := QA.out.free 6
              have y7 := QA.out.free 7
              have y8 := QA.out.free 8
              have y9 := QA.out.free 9
              have y10 := QA.out.free 10
              go_simp
              have PP := Lib.hid (putN (vs := [.string a0, .string a1, .int .i64 a2, .slice xs1 xm1 xc1, .slice xs2 xm2 xc2, .slice xs3 xm3 xc3, .slice xs4 xm4 xc4, .string a3, .int .i64 a4, .string a5, .bool a6]) QA.out rfl)
              obtain ⟨ww45, hnw⟩ : ∃ W, ww43.setCells p 0 [.string a0, .string a1, .int .i64 a2, .slice xs1 xm1 xc1, .slice xs2 xm2 xc2, .slice xs3 xm3 xc3, .slice xs4 xm4 xc4, .string a3, .int .i64 a4, .string a5, .bool a6] = W := ⟨_, rfl⟩
              have hnw2 : (((((((((((ww43.setCell ⟨p, 0, none⟩ (.string a0)).setCell ⟨p, 1, none⟩ (.string a1)).setCell ⟨p, 2, none⟩ (.int .i64 a2)).setCell ⟨p, 3, none⟩ (.slice xs1 xm1 xc1)).setCell ⟨p, 4, none⟩ (.slice xs2 xm2 xc2)).setCell ⟨p, 5, none⟩ (.slice xs3 xm3 xc3)).setCell ⟨p, 6, none⟩ (.slice xs4 xm4 xc4)).setCell ⟨p, 7, none⟩ (.string a3)).setCell ⟨p, 8, none⟩ (.int .i64 a4)).setCell ⟨p, 9, none⟩ (.string a5)).setCell ⟨p, 10, none⟩ (.bool a6)) = ww45 := hnw
              rw [hnw] at PP
              rw [hnw2]
              clear hnw hnw2 z0 y0 z1 y1 z2 y2 z3 y3 z4 y4 z5 y5 z6 y6 z7 y7 z8 y8 z9 y9 z10 y10
              have ZA := Lib.hid (pod_past ZA.out PP.out.size PP.out.far NAp.out)
              have ZB := Lib.hid (pod_past ZB.out PP.out.size PP.out.far NBp.out)
              have QB := Lib.hid (QB.out.block (PP.out.far q (fun e => hpq e.symm)))
              have KK := Lib.hid (show Kept w1 ww45 from PP.out.below _ _ HAP.out KK.out)
              have QA := Lib.hid PP.out.cells
              clear PP
              refine hK9.out _ _ KK.out (fun hHeld46 => ?_)
              clear hK9 K9
              try simp only [Act.put, List.setIfInBounds_toArray, List.set_cons_zero, List.set_cons_succ]
              refine wpAnyH_ready (rs := [7]) (by kernel_rfl) (by simp) (AllReadyH.cons (by rw [List.getElem?_toArray]; exact rfl) (fun K9 hK9 => ?_) AllReadyH.nil)
              have z0 := QB.out.at_ 0 _ rfl
              have z1 := QB.out.at_ 1 _ rfl
              have z2 := QB.out.at_ 2 _ rfl
              have z3 := QB.out.at_ 3 _ rfl
              have z4 := QB.out.at_ 4 _ rfl
              have z5 := QB.out.at_ 5 _ rfl
              have z6 := QB.out.at_ 6 _ rfl
              have z7 := QB.out.at_ 7 _ rfl
              have z8 := QB.out.at_ 8 _ rfl
              have z9 := QB.out.at_ 9 _ rfl
              have z10 := QB.out.at_ 10 _ rfl
              have y0 := QB.out.free 0
              have y1 := QB.out.free 1
              have y2 := QB.out.free 2
              have y3 := QB.out.free 3
              have y4 := QB.out.free 4
              have y5 := QB.out.free 5
              have y6 := QB.out.free 6
              have y7 := QB.out.free 7
              have y8 := QB.out.free 8
              have y9 := QB.out.free 9
              have y10 := QB.out.free 10
              go_simp
              have PP := Lib.hid (putN (vs := [.string b0, .string b1, .int .i64 b2, .slice ys1 ym1 yc1, .slice ys2 ym2 yc2, .slice ys3 ym3 yc3, .slice ys4 ym4 yc4, .string b3, .int .i64 b4, .string b5, .bool b6]) QB.out rfl)
              obtain ⟨ww47, hnw⟩ : ∃ W, ww45.setCells q 0 [.string b0, .string b1, .int .i64 b2, .slice ys1 ym1 yc1, .slice ys2 ym2 yc2, .slice ys3 ym3 yc3, .slice ys4 ym4 yc4, .string b3, .int .i64 b4, .string b5, .bool b6] = W := ⟨_, rfl⟩
              have hnw2 : (((((((((((ww45.setCell ⟨q, 0, none⟩ (.string b0)).setCell ⟨q, 1, none⟩ (.string b1)).setCell ⟨q, 2, none⟩ (.int .i64 b2)).setCell ⟨q, 3, none⟩ (.slice ys1 ym1 yc1)).setCell ⟨q, 4, none⟩ (.slice ys2 ym2 yc2)).setCell ⟨q, 5, none⟩ (.slice ys3 ym3 yc3)).setCell ⟨q, 6, none⟩ (.slice ys4 ym4 yc4)).setCell ⟨q, 7, none⟩ (.string b3)).setCell ⟨q, 8, none⟩ (.int .i64 b4)).setCell ⟨q, 9, none⟩ (.string b5)).setCell ⟨q, 10, none⟩ (.bool b6)) = ww47 := hnw
              rw [hnw] at PP
              rw [hnw2]
              clear hnw hnw2 z0 y0 z1 y1 z2 y2 z3 y3 z4 y4 z5 y5 z6 y6 z7 y7 z8 y8 z9 y9 z10 y10
              have ZA := Lib.hid (pod_past ZA.out PP.out.size PP.out.far NAq.out)
              have ZB := Lib.hid (pod_past ZB.out PP.out.size PP.out.far NBq.out)
              have QA := Lib.hid (QA.out.block (PP.out.far p hpq))
              have KK := Lib.hid (show Kept w1 ww47 from PP.out.below _ _ HBP.out KK.out)
              have QB := Lib.hid PP.out.cells
              clear PP
              refine hK9.out _ _ KK.out (fun hHeld48 => ?_)
              clear hK9 K9
              try simp only [Act.put, List.setIfInBounds_toArray, List.set_cons_zero, List.set_cons_succ]
              refine wpAnyH_done (by kernel_rfl) ?_ _
              go_wp2
              go_meet
              case rel => exact ⟨p, q, rfl, rfl, xs1, xm1, xc1, xs2, xm2, xc2, xs3, xm3, xc3, xs4, xm4, xc4, ys1, ym1, yc1, ys2, ym2, yc2, ys3, ym3, yc3, ys4, ym4, yc4, QA.out, QB.out, ZA.out, ZB.out, KK.out⟩
            · skip
              go_simp
              have k := kept_alloc ww39 (.cells #[.string ⟨#[]⟩, .string ⟨#[]⟩, .int .i64 0, .slice none 0 0, .slice none 0 0, .slice none 0 0, .slice none 0 0, .string ⟨#[]⟩, .int .i64 0, .string ⟨#[]⟩, .bool false] 38)
              have hn := freshN ww39 (.string ⟨#[]⟩) [.string ⟨#[]⟩, .int .i64 0, .slice none 0 0, .slice none 0 0, .slice none 0 0, .slice none 0 0, .string ⟨#[]⟩, .int .i64 0, .string ⟨#[]⟩, .bool false] 38 _ (Kept.refl _)
              have hp9 : w1.heap.size ≤ ww39.heap.size := KK.out.size
              have hpq : ww39.heap.size ≠ q := by have := QB.out.lt; omega
              have nA := WA.out.hi_not (Nat.le_refl ww39.heap.size)
              obtain ⟨p, hpe⟩ : ∃ z, ww39.heap.size = z := ⟨_, rfl⟩
              rw [hpe] at hn hp9 hpq nA ⊢
              have NAp := Lib.hid nA
              clear nA
              obtain ⟨ww49, hnw⟩ : ∃ W, ww39.alloc (.cells #[.string ⟨#[]⟩, .string ⟨#[]⟩, .int .i64 0, .slice none 0 0, .slice none 0 0, .slice none 0 0, .slice none 0 0, .string ⟨#[]⟩, .int .i64 0, .string ⟨#[]⟩, .bool false] 38) = W := ⟨_, rfl⟩
              rw [hnw] at hn k ⊢
              clear hnw hpe
              have KK := Lib.hid (KK.out.trans k)
              have ZA := Lib.hid (ZA.out.kept k)
              have WA := Lib.hid (WA.out.up k.size)
              have QB := Lib.hid (CellsN.kept QB.out k)
              have QA := Lib.hid hn
              have HAP := Lib.hid hp9
              clear hn k hp9
              refine hK9.out _ _ KK.out (fun hHeld50 => ?_)
              clear hK9 K9
              try simp only [Act.put, List.setIfInBounds_toArray, List.set_cons_zero, List.set_cons_succ]
              refine wpAnyH_ready (rs := [3]) (by kernel_rfl) (by simp) (AllReadyH.cons (by rw [List.getElem?_toArray]; exact rfl) (fun K9 hK9 => ?_) AllReadyH.nil)
              go_simp
              refine (HOB.out _ KK.out).mono ?_
              rintro e9 ww51 ⟨ys1, ym1, yc1, ys2, ym2, yc2, ys3, ym3, yc3, ys4, ym4, yc4, rfl, hz, hw, k⟩
              have KK := Lib.hid (KK.out.trans k)
              have NBp := Lib.hid (hw.lo_not QA.out.lt)
              have NBq := Lib.hid (hw.lo_not QB.out.lt)
              have ZA := Lib.hid (ZA.out.kept k)
              have WA := Lib.hid (WA.out.up k.size)
              have QA := Lib.hid (CellsN.kept QA.out k)
              have QB := Lib.hid (CellsN.kept QB.out k)
              have ZB := Lib.hid hz
              have WB := Lib.hid hw
              clear hz hw k
              refine hK9.out _ _ KK.out (fun hHeld52 => ?_)
              clear hK9 K9
              try simp only [Act.put, List.setIfInBounds_toArray, List.set_cons_zero, List.set_cons_succ]
              refine wpAnyH_ready (rs := [6]) (by kernel_rfl) (by simp) (AllReadyH.cons (by rw [List.getElem?_toArray]; exact rfl) (fun K9 hK9 => ?_) AllReadyH.nil)
              have z0 := QA.out.at_ 0 _ rfl
              have z1 := QA.out.at_ 1 _ rfl
              have z2 := QA.out.at_ 2 _ rfl
              have z3 := QA.out.at_ 3 _ rfl
              have z4 := QA.out.at_ 4 _ rfl
              have z5 := QA.out.at_ 5 _ rfl
              have z6 := QA.out.at_ 6 _ rfl
              have z7 := QA.out.at_ 7 _ rfl
              have z8 := QA.out.at_ 8 _ rfl
              have z9 := QA.out.at_ 9 _ rfl
              have z10 := QA.out.at_ 10 _ rfl
              have y0 := QA.out.free 0
              have y1 := QA.out.free 1
              have y2 := QA.out.free 2
              have y3 := QA.out.free 3
              have y4 := QA.out.free 4
              have y5 := QA.out.free 5
              have y6 := QA.out.free 6
              have y7 := QA.out.free 7
              have y8 := QA.out.free 8
              have y9 := QA.out.free 9
              have y10 := QA.out.free 10
              go_simp
              have PP := Lib.hid (putN (vs := [.string a0, .string a1, .int .i64 a2, .slice xs1 xm1 xc1, .slice xs2 xm2 xc2, .slice xs3 xm3 xc3, .slice xs4 xm4 xc4, .string a3, .int .i64 a4, .string a5, .bool a6]) QA.out rfl)
              obtain ⟨ww53, hnw⟩ : ∃ W, ww51.setCells p 0 [.string a0, .string a1, .int .i64 a2, .slice xs1 xm1 xc1, .slice xs2 xm2 xc2, .slice xs3 xm3 xc3, .slice xs4 xm4 xc4, .string a3, .int .i64 a4, .string a5, .bool a6] = W := ⟨_, rfl⟩
              have hnw2 : (((((((((((ww51.setCell ⟨p, 0, none⟩ (.string a0)).setCell ⟨p, 1, none⟩ (.string a1)).setCell ⟨p, 2, none⟩ (.int .i64 a2)).setCell ⟨p, 3, none⟩ (.slice xs1 xm1 xc1)).setCell ⟨p, 4, none⟩ (.slice xs2 xm2 xc2)).setCell ⟨p, 5, none⟩ (.slice xs3 xm3 xc3)).setCell ⟨p, 6, none⟩ (.slice xs4 xm4 xc4)).setCell ⟨p, 7, none⟩ (.string a3)).setCell ⟨p, 8, none⟩ (.int .i64 a4)).setCell ⟨p, 9, none⟩ (.string a5)).setCell ⟨p, 10, none⟩ (.bool a6)) = ww53 := hnw
              rw [hnw] at PP
              rw [hnw2]
              clear hnw hnw2 z0 y0 z1 y1 z2 y2 z3 y3 z4 y4 z5 y5 z6 y6 z7 y7 z8 y8 z9 y9 z10 y10
              have ZA := Lib.hid (pod_past ZA.out PP.out.size PP.out.far NAp.out)
              have ZB := Lib.hid (pod_past ZB.out PP.out.size PP.out.far NBp.out)
              have QB := Lib.hid (QB.out.block (PP.out.far q (fun e => hpq e.symm)))
              have KK := Lib.hid (show Kept w1 ww53 from PP.out.below _ _ HAP.out KK.out)
              have QA := Lib.hid PP.out.cells
              clear PP
              refine hK9.out _ _ KK.out (fun hHeld54 => ?_)
              clear hK9 K9
              try simp only [Act.put, List.setIfInBounds_toArray, List.set_cons_zero, List.set_cons_succ]
              refine wpAnyH_ready (rs := [7]) (by kernel_rfl) (by simp) (AllReadyH.cons (by rw [List.getElem?_toArray]; exact rfl) (fun K9 hK9 => ?_) AllReadyH.nil)
              have z0 := QB.out.at_ 0 _ rfl
              have z1 := QB.out.at_ 1 _ rfl
              have z2 := QB.out.at_ 2 _ rfl
              have z3 := QB.out.at_ 3 _ rfl
              have z4 := QB.out.at_ 4 _ rfl
              have z5 := QB.out.at_ 5 _ rfl
              have z6 := QB.out.at_ 6 _ rfl
              have z7 := QB.out.at_ 7 _ rfl
              have z8 := QB.out.at_ 8 _ rfl
              have z9 := QB.out.at_ 9 _ rfl
              have z10 := QB.out.at_ 10 _ rfl
              have y0 := QB.out.free 0
              have y1 := QB.out.free 1
              have y2 := QB.out.free 2
              have y3 := QB.out.free 3
              have y4 := QB.out.free 4
              have y5 := QB.out.free 5
              have y6 := QB.out.free 6
              have y7 := QB.out.free 7
              have y8 := QB.out.free 8
              have y9 := QB.out.free 9
              have y10 := QB.out.free 10
              go_simp
              have PP := Lib.hid (putN (vs := [.string b0, .string b1, .int .i64 b2, .slice ys1 ym1 yc1, .slice ys2 ym2 yc2, .slice ys3 ym3 yc3, .slice ys4 ym4 yc4, .string b3, .int .i64 b4, .string b5, .bool b6]) QB.out rfl)
              obtain ⟨ww55, hnw⟩ : ∃ W, ww53.setCells q 0 [.string b0, .string b1, .int .i64 b2, .slice ys1 ym1 yc1, .slice ys2 ym2 yc2, .slice ys3 ym3 yc3, .slice ys4 ym4 yc4, .string b3, .int .i64 b4, .string b5, .bool b6] = W := ⟨_, rfl⟩
              have hnw2 : (((((((((((ww53.setCell ⟨q, 0, none⟩ (.string b0)).setCell ⟨q, 1, none⟩ (.string b1)).setCell ⟨q, 2, none⟩ (.int .i64 b2)).setCell ⟨q, 3, none⟩ (.slice ys1 ym1 yc1)).setCell ⟨q, 4, none⟩ (.slice ys2 ym2 yc2)).setCell ⟨q, 5, none⟩ (.slice ys3 ym3 yc3)).setCell ⟨q, 6, none⟩ (.slice ys4 ym4 yc4)).setCell ⟨q, 7, none⟩ (.string b3)).setCell ⟨q, 8, none⟩ (.int .i64 b4)).setCell ⟨q, 9, none⟩ (.string b5)).setCell ⟨q, 10, none⟩ (.bool b6)) = ww55 := hnw
              rw [hnw] at PP
              rw [hnw2]
              clear hnw hnw2 z0 y0 z1 y1 z2 y2 z3 y3 z4 y4 z5 y5 z6 y6 z7 y7 z8 y8 z9 y9 z10 y10
              have ZA := Lib.hid (pod_past ZA.out PP.out.size PP.out.far NAq.out)
              have ZB := Lib.hid (pod_past ZB.out PP.out.size PP.out.far NBq.out)
              have QA := Lib.hid (QA.out.block (PP.out.far p hpq))
              have KK := Lib.hid (show Kept w1 ww55 from PP.out.below _ _ HBP.out KK.out)
              have QB := Lib.hid PP.out.cells
              clear PP
              refine hK9.out _ _ KK.out (fun hHeld56 => ?_)
              clear hK9 K9
              try simp only [Act.put, List.setIfInBounds_toArray, List.set_cons_zero, List.set_cons_succ]
              refine wpAnyH_done (by kernel_rfl) ?_ _
              go_wp2
              go_meet
              case rel => exact ⟨p, q, rfl, rfl, xs1, xm1, xc1, xs2, xm2, xc2, xs3, xm3, xc3, xs4, xm4, xc4, ys1, ym1, yc1, ys2, ym2, yc2, ys3, ym3, yc3, ys4, ym4, yc4, QA.out, QB.out, ZA.out, ZB.out, KK.out⟩
        · skip
          go_simp
          have k := kept_alloc wd (.cells #[.string ⟨#[]⟩, .string ⟨#[]⟩, .int .i64 0, .slice none 0 0, .slice none 0 0, .slice none 0 0, .slice none 0 0, .string ⟨#[]⟩, .int .i64 0, .string ⟨#[]⟩, .bool false] 38)
          have hn := freshN wd (.string ⟨#[]⟩) [.string ⟨#[]⟩, .int .i64 0, .slice none 0 0, .slice none 0 0, .slice none 0 0, .slice none 0 0, .string ⟨#[]⟩, .int .i64 0, .string ⟨#[]⟩, .bool false] 38 _ (Kept.refl _)
          have hp9 : w1.heap.size ≤ wd.heap.size := KK.out.size
          obtain ⟨p, hpe⟩ : ∃ z, wd.heap.size = z := ⟨_, rfl⟩
          rw [hpe] at hn hp9  ⊢
          obtain ⟨ww57, hnw⟩ : ∃ W, wd.alloc (.cells #[.string ⟨#[]⟩, .string ⟨#[]⟩, .int .i64 0, .slice none 0 0, .slice none 0 0, .slice none 0 0, .slice none 0 0, .string ⟨#[]⟩, .int .i64 0, .string ⟨#[]⟩, .bool false] 38) = W := ⟨_, rfl⟩
          rw [hnw] at hn k ⊢
          clear hnw hpe
          have KK := Lib.hid (KK.out.trans k)
          have QA := Lib.hid hn
          have HAP := Lib.hid hp9
          clear hn k hp9
          refine hK9.out _ _ KK.out (fun hHeld58 => ?_)
          clear hK9 K9
          try simp only [Act.put, List.setIfInBounds_toArray, List.set_cons_zero, List.set_cons_succ]
          refine wpAnyH_ready (rs := [1, 5]) (by kernel_rfl) (by simp) (AllReadyH.cons (by rw [List.getElem?_toArray]; exact rfl) (fun K9 hK9 => ?_) (AllReadyH.cons (by rw [List.getElem?_toArray]; exact rfl) (fun K9 hK9 => ?_) AllReadyH.nil))
          · skip
            go_simp
            refine (HOA.out _ KK.out).mono ?_
            rintro e9 ww59 ⟨xs1, xm1, xc1, xs2, xm2, xc2, xs3, xm3, xc3, xs4, xm4, xc4, rfl, hz, hw, k⟩
            have KK := Lib.hid (KK.out.trans k)
            have NAp := Lib.hid (hw.lo_not QA.out.lt)
            have QA := Lib.hid (CellsN.kept QA.out k)
            have ZA := Lib.hid hz
            have WA := Lib.hid hw
            clear hz hw k
            refine hK9.out _ _ KK.out (fun hHeld60 => ?_)
            clear hK9 K9
            try simp only [Act.put, List.setIfInBounds_toArray, List.set_cons_zero, List.set_cons_succ]
            refine wpAnyH_ready (rs := [3, 5]) (by kernel_rfl) (by simp) (AllReadyH.cons (by rw [List.getElem?_toArray]; exact rfl) (fun K9 hK9 => ?_) (AllReadyH.cons (by rw [List.getElem?_toArray]; exact rfl) (fun K9 hK9 => ?_) AllReadyH.nil))
            · skip
              go_simp
              refine (HOB.out _ KK.out).mono ?_
              rintro e9 ww61 ⟨ys1, ym1, yc1, ys2, ym2, yc2, ys3, ym3, yc3, ys4, ym4, yc4, rfl, hz, hw, k⟩
              have KK := Lib.hid (KK.out.trans k)
              have NBp := Lib.hid (hw.lo_not QA.out.lt)
              have ZA := Lib.hid (ZA.out.kept k)
              have WA := Lib.hid (WA.out.up k.size)
              have QA := Lib.hid (CellsN.kept QA.out k)
              have ZB := Lib.hid hz
              have WB := Lib.hid hw
              clear hz hw k
              refine hK9.out _ _ KK.out (fun hHeld62 => ?_)
              clear hK9 K9
              try simp only [Act.put, List.setIfInBounds_toArray, List.set_cons_zero, List.set_cons_succ]
              refine wpAnyH_ready (rs := [5]) (by kernel_rfl) (by simp) (AllReadyH.cons (by rw [List.getElem?_toArray]; exact rfl) (fun K9 hK9 => ?_) AllReadyH.nil)
              go_simp
              have k := kept_alloc ww61 (.cells #[.string ⟨#[]⟩, .string ⟨#[]⟩, .int .i64 0, .slice none 0 0, .slice none 0 0, .slice none 0 0, .slice none 0 0, .string ⟨#[]⟩, .int .i64 0, .string ⟨#[]⟩, .bool false] 38)
              have hn := freshN ww61 (.string ⟨#[]⟩) [.string ⟨#[]⟩, .int .i64 0, .slice none 0 0, .slice none 0 0, .slice none 0 0, .slice none 0 0, .string ⟨#[]⟩, .int .i64 0, .string ⟨#[]⟩, .bool false] 38 _ (Kept.refl _)
              have hp9 : w1.heap.size ≤ ww61.heap.size := KK.out.size
              have hpq : p ≠ ww61.heap.size := by have := QA.out.lt; omega
              have nA := WA.out.hi_not (Nat.le_refl ww61.heap.size)
              have nB := WB.out.hi_not (Nat.le_refl ww61.heap.size)
              obtain ⟨q, hqe⟩ : ∃ z, ww61.heap.size = z := ⟨_, rfl⟩
              rw [hqe] at hn hp9 hpq nA nB ⊢
              have NAq := Lib.hid nA
              clear nA
              have NBq := Lib.hid nB
              clear nB
              obtain ⟨ww63, hnw⟩ : ∃ W, ww61.alloc (.cells #[.string ⟨#[]⟩, .string ⟨#[]⟩, .int .i64 0, .slice none 0 0, .slice none 0 0, .slice none 0 0, .slice none 0 0, .string ⟨#[]⟩, .int .i64 0, .string ⟨#[]⟩, .bool false] 38) = W := ⟨_, rfl⟩
              rw [hnw] at hn k ⊢
              clear hnw hqe
              have KK := Lib.hid (KK.out.trans k)
              have ZA := Lib.hid (ZA.out.kept k)
              have WA := Lib.hid (WA.out.up k.size)
              have ZB := Lib.hid (ZB.out.kept k)
              have WB := Lib.hid (WB.out.up k.size)
              have QA := Lib.hid (CellsN.kept QA.out k)
              have QB := Lib.hid hn
              have HBP := Lib.hid hp9
              clear hn k hp9
              refine hK9.out _ _ KK.out (fun hHeld64 => ?_)
              clear hK9 K9
              try simp only [Act.put, List.setIfInBounds_toArray, List.set_cons_zero, List.set_cons_succ]
              refine wpAnyH_ready (rs := [6]) (by kernel_rfl) (by simp) (AllReadyH.cons (by rw [List.getElem?_toArray]; exact rfl) (fun K9 hK9 => ?_) AllReadyH.nil)
              have z0 := QA.out.at_ 0 _ rfl
              have z1 := QA.out.at_ 1 _ rfl
              have z2 := QA.out.at_ 2 _ rfl
              have z3 := QA.out.at_ 3 _ rfl
              have z4 := QA.out.at_ 4 _ rfl
              have z5 := QA.out.at_ 5 _ rfl
              have z6 := QA.out.at_ 6 _ rfl
              have z7 := QA.out.at_ 7 _ rfl
              have z8 := QA.out.at_ 8 _ rfl
              have z9 := QA.out.at_ 9 _ rfl
              have z10 := QA.out.at_ 10 _ rfl
              have y0 := QA.out.free 0
              have y1 := QA.out.free 1
              have y2 := QA.out.free 2
              have y3 := QA.out.free 3
              have y4 := QA.out.free 4
              have y5 := QA.out.free 5
              have y6 := QA.out.free 6
              have y7 := QA.out.free 7
              have y8 := QA.out.free 8
              have y9 := QA.out.free 9
              have y10 := QA.out.free 10
              go_simp
              have PP := Lib.hid (putN (vs := [.string a0, .string a1, .int .i64 a2, .slice xs1 xm1 xc1, .slice xs2 xm2 xc2, .slice xs3 xm3 xc3, .slice xs4 xm4 xc4, .string a3, .int .i64 a4, .string a5, .bool a6]) QA.out rfl)
              obtain ⟨ww65, hnw⟩ : ∃ W, ww63.setCells p 0 [.string a0, .string a1, .int .i64 a2, .slice xs1 xm1 xc1, .slice xs2 xm2 xc2, .slice xs3 xm3 xc3, .slice xs4 xm4 xc4, .string a3, .int .i64 a4, .string a5, .bool a6] = W := ⟨_, rfl⟩
              have hnw2 : (((((((((((ww63.setCell ⟨p, 0, none⟩ (.string a0)).setCell ⟨p, 1, none⟩ (.string a1)).setCell ⟨p, 2, none⟩ (.int .i64 a2)).setCell ⟨p, 3, none⟩ (.slice xs1 xm1 xc1)).setCell ⟨p, 4, none⟩ (.slice xs2 xm2 xc2)).setCell ⟨p, 5, none⟩ (.slice xs3 xm3 xc3)).setCell ⟨p, 6, none⟩ (.slice xs4 xm4 xc4)).setCell ⟨p, 7, none⟩ (.string a3)).setCell ⟨p, 8, none⟩ (.int .i64 a4)).setCell ⟨p, 9, none⟩ (.string a5)).setCell ⟨p, 10, none⟩ (.bool a6)) = ww65 := hnw
              rw [hnw] at PP
              rw [hnw2]
              clear hnw hnw2 z0 y0 z1 y1 z2 y2 z3 y3 z4 y4 z5 y5 z6 y6 z7 y7 z8 y8 z9 y9 z10 y10
              have ZA := Lib.hid (pod_past ZA.out PP.out.size PP.out.far NAp.out)
              have ZB := Lib.hid (pod_past ZB.out PP.out.size PP.out.far NBp.out)
              have QB := Lib.hid (QB.out.block (PP.out.far q (fun e => hpq e.symm)))
              have KK := Lib.hid (show Kept w1 ww65 from PP.out.below _ _ HAP.out KK.out)
              have QA := Lib.hid PP.out.cells
              clear PP
              refine hK9.out _ _ KK.out (fun hHeld66 => ?_)
              clear hK9 K9
              try simp only [Act.put, List.setIfInBounds_toArray, List.set_cons_zero, List.set_cons_succ]
              refine wpAnyH_ready (rs := [7]) (by kernel_rfl) (by simp) (AllReadyH.cons (by rw [List.getElem?_toArray]; exact rfl) (fun K9 hK9 => ?_) AllReadyH.nil)
              have z0 := QB.out.at_ 0 _ rfl
              have z1 := QB.out.at_ 1 _ rfl
              have z2 := QB.out.at_ 2 _ rfl
              have z3 := QB.out.at_ 3 _ rfl
              have z4 := QB.out.at_ 4 _ rfl
              have z5 := QB.out.at_ 5 _ rfl
              have z6 := QB.out.at_ 6 _ rfl
              have z7 := QB.out.at_ 7 _ rfl
              have z8 := QB.out.at_ 8 _ rfl
              have z9 := QB.out.at_ 9 _ rfl
              have z10 := QB.out.at_ 10 _ rfl
              have y0 := QB.out.free 0
              have y1 := QB.out.free 1
              have y2 := QB.out.free 2
              have y3 := QB.out.free 3
              have y4 := QB.out.free 4
              have y5 := QB.out.free 5
              have y6 := QB.out.free 6
              have y7 := QB.out.free 7
              have y8 := QB.out.free 8
              have y9 := QB.out.free 9
              have y10 := QB.out.free 10
              go_simp
              have PP := Lib.hid (putN (vs := [.string b0, .string b1, .int .i64 b2, .slice ys1 ym1 yc1, .slice ys2 ym2 yc2, .slice ys3 ym3 yc3, .slice ys4 ym4 yc4, .string b3, .int .i64 b4, .string b5, .bool b6]) QB.out rfl)
              obtain ⟨ww67, hnw⟩ : ∃ W, ww65.setCells q 0 [.string b0, .string b1, .int .i64 b2, .slice ys1 ym1 yc1, .slice ys2 ym2 yc2, .slice ys3 ym3 yc3, .slice ys4 ym4 yc4, .string b3, .int .i64 b4, .string b5, .bool b6] = W := ⟨_, rfl⟩
              have hnw2 : (((((((((((ww65.setCell ⟨q, 0, none⟩ (.string b0)).setCell ⟨q, 1, none⟩ (.string b1)).setCell ⟨q, 2, none⟩ (.int .i64 b2)).setCell ⟨q, 3, none⟩ (.slice ys1 ym1 yc1)).setCell ⟨q, 4, none⟩ (.slice ys2 ym2 yc2)).setCell ⟨q, 5, none⟩ (.slice ys3 ym3 yc3)).setCell ⟨q, 6, none⟩ (.slice ys4 ym4 yc4)).setCell ⟨q, 7, none⟩ (.string b3)).setCell ⟨q, 8, none⟩ (.int .i64 b4)).setCell ⟨q, 9, none⟩ (.string b5)).setCell ⟨q, 10, none⟩ (.bool b6)) = ww67 := hnw
              rw [hnw] at PP
              rw [hnw2]
              clear hnw hnw2 z0 y0 z1 y1 z2 y2 z3 y3 z4 y4 z5 y5 z6 y6 z7 y7 z8 y8 z9 y9 z10 y10
              have ZA := Lib.hid (pod_past ZA.out PP.out.size PP.out.far NAq.out)
              have ZB := Lib.hid (pod_past ZB.out PP.out.size PP.out.far NBq.out)
              have QA := Lib.hid (QA.out.block (PP.out.far p hpq))
              have KK := Lib.hid (show Kept w1 ww67 from PP.out.below _ _ HBP.out KK.out)
              have QB := Lib.hid PP.out.cells
              clear PP
              refine hK9.out _ _ KK.out (fun hHeld68 => ?_)
              clear hK9 K9
              try simp only [Act.put, List.setIfInBounds_toArray, List.set_cons_zero, List.set_cons_succ]
              refine wpAnyH_done (by kernel_rfl) ?_ _
              go_wp2
              go_meet
              case rel => exact ⟨p, q, rfl, rfl, xs1, xm1, xc1, xs2, xm2, xc2, xs3, xm3, xc3, xs4, xm4, xc4, ys1, ym1, yc1, ys2, ym2, yc2, ys3, ym3, yc3, ys4, ym4, yc4, QA.out, QB.out, ZA.out, ZB.out, KK.out⟩
            · skip
              go_simp
              have k := kept_alloc ww59 (.cells #[.string ⟨#[]⟩, .string ⟨#[]⟩, .int .i64 0, .slice none 0 0, .slice none 0 0, .slice none 0 0, .slice none 0 0, .string ⟨#[]⟩, .int .i64 0, .string ⟨#[]⟩, .bool false] 38)
              have hn := freshN ww59 (.string ⟨#[]⟩) [.string ⟨#[]⟩, .int .i64 0, .slice none 0 0, .slice none 0 0, .slice none 0 0, .slice none 0 0, .string ⟨#[]⟩, .int .i64 0, .string ⟨#[]⟩, .bool false] 38 _ (Kept.refl _)
              have hp9 : w1.heap.size ≤ ww59.heap.size := KK.out.size
              have hpq : p ≠ ww59.heap.size := by have := QA.out.lt; omega
              have nA := WA.out.hi_not (Nat.le_refl ww59.heap.size)
              obtain ⟨q, hqe⟩ : ∃ z, ww59.heap.size = z := ⟨_, rfl⟩
              rw [hqe] at hn hp9 hpq nA ⊢
              have NAq := Lib.hid nA
              clear nA
              obtain ⟨ww69, hnw⟩ : ∃ W, ww59.alloc (.cells #[.string ⟨#[]⟩, .string ⟨#[]⟩, .int .i64 0, .slice none 0 0, .slice none 0 0, .slice none 0 0, .slice none 0 0, .string ⟨#[]⟩, .int .i64 0, .string ⟨#[]⟩, .bool false] 38) = W := ⟨_, rfl⟩
              rw [hnw] at hn k ⊢
              clear hnw hqe
              have KK := Lib.hid (KK.out.trans k)
              have ZA := Lib.hid (ZA.out.kept k)
              have WA := Lib.hid (WA.out.up k.size)
              have QA := Lib.hid (CellsN.kept QA.out k)
              have QB := Lib.hid hn
              have HBP := Lib.hid hp9
              clear hn k hp9
              refine hK9.out _ _ KK.out (fun hHeld70 => ?_)
              clear hK9 K9
              try simp only [Act.put, List.setIfInBounds_toArray, List.set_cons_zero, List.set_cons_succ]
              refine wpAnyH_ready (rs := [3]) (by kernel_rfl) (by simp) (AllReadyH.cons (by rw [List.getElem?_toArray]; exact rfl) (fun K9 hK9 => ?_) AllReadyH.nil)
              go_simp
              refine (HOB.out _ KK.out).mono ?_
              rintro e9 ww71 ⟨ys1, ym1, yc1, ys2, ym2, yc2, ys3, ym3, yc3, ys4, ym4, yc4, rfl, hz, hw, k⟩
              have KK := Lib.hid (KK.out.trans k)
              have NBp := Lib.hid (hw.lo_not QA.out.lt)
              have NBq := Lib.hid (hw.lo_not QB.out.lt)
              have ZA := Lib.hid (ZA.out.kept k)
              have WA := Lib.hid (WA.out.up k.size)
              have QA := Lib.hid (CellsN.kept QA.out k)
              have QB := Lib.hid (CellsN.kept QB.out k)
              have ZB := Lib.hid hz
              have WB := Lib.hid hw
              clear hz hw k
              refine hK9.out _ _ KK.out (fun hHeld72 => ?_)
              clear hK9 K9
              try simp only [Act.put, List.setIfInBounds_toArray, List.set_cons_zero, List.set_cons_succ]
              refine wpAnyH_ready (rs := [6]) (by kernel_rfl) (by simp) (AllReadyH.cons (by rw [List.getElem?_toArray]; exact rfl) (fun K9 hK9 => ?_) AllReadyH.nil)
              have z0 := QA.out.at_ 0 _ rfl
              have z1 := QA.out.at_ 1 _ rfl
              have z2 := QA.out.at_ 2 _ rfl
              have z3 := QA.out.at_ 3 _ rfl
              have z4 := QA.out.at_ 4 _ rfl
              have z5 := QA.out.at_ 5 _ rfl
              have z6 := QA.out.at_ 6 _ rfl
              have z7 := QA.out.at_ 7 _ rfl
              have z8 := QA.out.at_ 8 _ rfl
              have z9 := QA.out.at_ 9 _ rfl
              have z10 := QA.out.at_ 10 _ rfl
              have y0 := QA.out.free 0
              have y1 := QA.out.free 1
              have y2 := QA.out.free 2
              have y3 := QA.out.free 3
              have y4 := QA.out.free 4
              have y5 := QA.out.free 5
              have y6 := QA.out.free 6
              have y7 := QA.out.free 7
              have y8 := QA.out.free 8
              have y9 := QA.out.free 9
              have y10 := QA.out.free 10
              go_simp
              have PP := Lib.hid (putN (vs := [.string a0, .string a1, .int .i64 a2, .slice xs1 xm1 xc1, .slice xs2 xm2 xc2, .slice xs3 xm3 xc3, .slice xs4 xm4 xc4, .string a3, .int .i64 a4, .string a5, .bool a6]) QA.out rfl)
              obtain ⟨ww73, hnw⟩ : ∃ W, ww71.setCells p 0 [.string a0, .string a1, .int .i64 a2, .slice xs1 xm1 xc1, .slice xs2 xm2 xc2, .slice xs3 xm3 xc3, .slice xs4 xm4 xc4, .string a3, .int .i64 a4, .string a5, .bool a6] = W := ⟨_, rfl⟩
              have hnw2 : (((((((((((ww71.setCell ⟨p, 0, none⟩ (.string a0)).setCell ⟨p, 1, none⟩ (.string a1)).setCell ⟨p, 2, none⟩ (.int .i64 a2)).setCell ⟨p, 3, none⟩ (.slice xs1 xm1 xc1)).setCell ⟨p, 4, none⟩ (.slice xs2 xm2 xc2)).setCell ⟨p, 5, none⟩ (.slice xs3 xm3 xc3)).setCell ⟨p, 6, none⟩ (.slice xs4 xm4 xc4)).setCell ⟨p, 7, none⟩ (.string a3)).setCell ⟨p, 8, none⟩ (.int .i64 a4)).setCell ⟨p, 9, none⟩ (.string a5)).setCell ⟨p, 10, none⟩ (.bool a6)) = ww73 := hnw
              rw [hnw] at PP
              rw [hnw2]
              clear hnw hnw2 z0 y0 z1 y1 z2 y2 z3 y3 z4 y4 z5 y5 z6 y6 z7 y7 z8 y8 z9 y9 z10 y10
              have ZA := Lib.hid (pod_past ZA.out PP.out.size PP.out.far NAp.out)
              have ZB := Lib.hid (pod_past ZB.out PP.out.size PP.out.far NBp.out)
              have QB := Lib.hid (QB.out.block (PP.out.far q (fun e => hpq e.symm)))
              have KK := Lib.hid (show Kept w1 ww73 from PP.out.below _ _ HAP.out KK.out)
              have QA := Lib.hid PP.out.cells
              clear PP
              refine hK9.out _ _ KK.out (fun hHeld74 => ?_)
              clear hK9 K9
              try simp only [Act.put, List.setIfInBounds_toArray, List.set_cons_zero, List.set_cons_succ]
              refine wpAnyH_ready (rs := [7]) (by kernel_rfl) (by simp) (AllReadyH.cons (by rw [List.getElem?_toArray]; exact rfl) (fun K9 hK9 => ?_) AllReadyH.nil)
              have z0 := QB.out.at_ 0 _ rfl
              have z1 := QB.out.at_ 1 _ rfl
              have z2 := QB.out.at_ 2 _ rfl
              have z3 := QB.out.at_ 3 _ rfl
              have z4 := QB.out.at_ 4 _ rfl
              have z5 := QB.out.at_ 5 _ rfl
              have z6 := QB.out.at_ 6 _ rfl
              have z7 := QB.out.at_ 7 _ rfl
              have z8 := QB.out.at_ 8 _ rfl
              have z9 := QB.out.at_ 9 _ rfl
              have z10 := QB.out.at_ 10 _ rfl
              have y0 := QB.out.free 0
              have y1 := QB.out.free 1
              have y2 := QB.out.free 2
              have y3 := QB.out.free 3
              have y4 := QB.out.free 4
              have y5 := QB.out.free 5
              have y6 := QB.out.free 6
              have y7 := QB.out.free 7
              have y8 := QB.out.free 8
              have y9 := QB.out.free 9
              have y10 := QB.out.free 10
              go_simp
              have PP := Lib.hid (putN (vs := [.string b0, .string b1, .int .i64 b2, .slice ys1 ym1 yc1, .slice ys2 ym2 yc2, .slice ys3 ym3 yc3, .slice ys4 ym4 yc4, .string b3, .int .i64 b4, .string b5, .bool b6]) QB.out rfl)
              obtain ⟨ww75, hnw⟩ : ∃ W, ww73.setCells q 0 [.string b0, .string b1, .int .i64 b2, .slice ys1 ym1 yc1, .slice ys2 ym2 yc2, .slice ys3 ym3 yc3, .slice ys4 ym4 yc4, .string b3, .int .i64 b4, .string b5, .bool b6] = W := ⟨_, rfl⟩
              have hnw2 : (((((((((((ww73.setCell ⟨q, 0, none⟩ (.string b0)).setCell ⟨q, 1, none⟩ (.string b1)).setCell ⟨q, 2, none⟩ (.int .i64 b2)).setCell ⟨q, 3, none⟩ (.slice ys1 ym1 yc1)).setCell ⟨q, 4, none⟩ (.slice ys2 ym2 yc2)).setCell ⟨q, 5, none⟩ (.slice ys3 ym3 yc3)).setCell ⟨q, 6, none⟩ (.slice ys4 ym4 yc4)).setCell ⟨q, 7, none⟩ (.string b3)).setCell ⟨q, 8, none⟩ (.int .i64 b4)).setCell ⟨q, 9, none⟩ (.string b5)).setCell ⟨q, 10, none⟩ (.bool b6)) = ww75 := hnw
              rw [hnw] at PP
              rw [hnw2]
              clear hnw hnw2 z0 y0 z1 y1 z2 y2 z3 y3 z4 y4 z5 y5 z6 y6 z7 y7 z8 y8 z9 y9 z10 y10
              have ZA := Lib.hid (pod_past ZA.out PP.out.size PP.out.far NAq.out)
              have ZB := Lib.hid (pod_past ZB.out PP.out.size PP.out.far NBq.out)
              have QA := Lib.hid (QA.out.block (PP.out.far p hpq))
              have KK := Lib.hid (show Kept w1 ww75 from PP.out.below _ _ HBP.out KK.out)
              have QB := Lib.hid PP.out.cells
              clear PP
              refine hK9.out _ _ KK.out (fun hHeld76 => ?_)
              clear hK9 K9
              try simp only [Act.put, List.setIfInBounds_toArray, List.set_cons_zero, List.set_cons_succ]
              refine wpAnyH_done (by kernel_rfl) ?_ _
              go_wp2
              go_meet
              case rel => exact ⟨p, q, rfl, rfl, xs1, xm1, xc1, xs2, xm2, xc2, xs3, xm3, xc3, xs4, xm4, xc4, ys1, ym1, yc1, ys2, ym2, yc2, ys3, ym3, yc3, ys4, ym4, yc4, QA.out, QB.out, ZA.out, ZB.out, KK.out⟩
          · skip
            go_simp
            have k := kept_alloc ww57 (.cells #[.string ⟨#[]⟩, .string ⟨#[]⟩, .int .i64 0, .slice none 0 0, .slice none 0 0, .slice none 0 0, .slice none 0 0, .string ⟨#[]⟩, .int .i64 0, .string ⟨#[]⟩, .bool false] 38)
            have hn := freshN ww57 (.string ⟨#[]⟩) [.string ⟨#[]⟩, .int .i64 0, .slice none 0 0, .slice none 0 0, .slice none 0 0, .slice none 0 0, .string ⟨#[]⟩, .int .i64 0, .string ⟨#[]⟩, .bool false] 38 _ (Kept.refl _)
            have hp9 : w1.heap.size ≤ ww57.heap.size := KK.out.size
            have hpq : p ≠ ww57.heap.size := by have := QA.out.lt; omega
            obtain ⟨q, hqe⟩ : ∃ z, ww57.heap.size = z := ⟨_, rfl⟩
            rw [hqe] at hn hp9 hpq ⊢
            obtain ⟨ww77, hnw⟩ : ∃ W, ww57.alloc (.cells #[.string ⟨#[]⟩, .string ⟨#[]⟩, .int .i64 0, .slice none 0 0, .slice none 0 0, .slice none 0 0, .slice none 0 0, .string ⟨#[]⟩, .int .i64 0, .string ⟨#[]⟩, .bool false] 38) = W := ⟨_, rfl⟩
            rw [hnw] at hn k ⊢
            clear hnw hqe
            have KK := Lib.hid (KK.out.trans k)
            have QA := Lib.hid (CellsN.kept QA.out k)
            have QB := Lib.hid hn
            have HBP := Lib.hid hp9
            clear hn k hp9
            refine hK9.out _ _ KK.out (fun hHeld78 => ?_)
            clear hK9 K9
            try simp only [Act.put, List.setIfInBounds_toArray, List.set_cons_zero, List.set_cons_succ]
            refine wpAnyH_ready (rs := [1]) (by kernel_rfl) (by simp) (AllReadyH.cons (by rw [List.getElem?_toArray]; exact rfl) (fun K9 hK9 => ?_) AllReadyH.nil)
            go_simp
            refine (HOA.out _ KK.out).mono ?_
            rintro e9 ww79 ⟨xs1, xm1, xc1, xs2, xm2, xc2, xs3, xm3, xc3, xs4, xm4, xc4, rfl, hz, hw, k⟩
            have KK := Lib.hid (KK.out.trans k)
            have NAp := Lib.hid (hw.lo_not QA.out.lt)
            have NAq := Lib.hid (hw.lo_not QB.out.lt)
            have QA := Lib.hid (CellsN.kept QA.out k)
            have QB := Lib.hid (CellsN.kept QB.out k)
            have ZA := Lib.hid hz
            have WA := Lib.hid hw
            clear hz hw k
            refine hK9.out _ _ KK.out (fun hHeld80 => ?_)
            clear hK9 K9
            try simp only [Act.put, List.setIfInBounds_toArray, List.set_cons_zero, List.set_cons_succ]
            refine wpAnyH_ready (rs := [3]) (by kernel_rfl) (by simp) (AllReadyH.cons (by rw [List.getElem?_toArray]; exact rfl) (fun K9 hK9 => ?_) AllReadyH.nil)
            go_simp
            refine (HOB.out _ KK.out).mono ?_
            rintro e9 ww81 ⟨ys1, ym1, yc1, ys2, ym2, yc2, ys3, ym3, yc3, ys4, ym4, yc4, rfl, hz, hw, k⟩
            have KK := Lib.hid (KK.out.trans k)
            have NBp := Lib.hid (hw.lo_not QA.out.lt)
            have NBq := Lib.hid (hw.lo_not QB.out.lt)
            have ZA := Lib.hid (ZA.out.kept k)
            have WA := Lib.hid (WA.out.up k.size)
            have QA := Lib.hid (CellsN.kept QA.out k)
            have QB := Lib.hid (CellsN.kept QB.out k)
            have ZB := Lib.hid hz
            have WB := Lib.hid hw
            clear hz hw k
            refine hK9.out _ _ KK.out (fun hHeld82 => ?_)
            clear hK9 K9
            try simp only [Act.put, List.setIfInBounds_toArray, List.set_cons_zero, List.set_cons_succ]
            refine wpAnyH_ready (rs := [6]) (by kernel_rfl) (by simp) (AllReadyH.cons (by rw [List.getElem?_toArray]; exact rfl) (fun K9 hK9 => ?_) AllReadyH.nil)
            have z0 := QA.out.at_ 0 _ rfl
            have z1 := QA.out.at_ 1 _ rfl
            have z2 := QA.out.at_ 2 _ rfl
            have z3 := QA.out.at_ 3 _ rfl
            have z4 := QA.out.at_ 4 _ rfl
            have z5 := QA.out.at_ 5 _ rfl
            have z6 := QA.out.at_ 6 _ rfl
            have z7 := QA.out.at_ 7 _ rfl
            have z8 := QA.out.at_ 8 _ rfl
            have z9 := QA.out.at_ 9 _ rfl
            have z10 := QA.out.at_ 10 _ rfl
            have y0 := QA.out.free 0
            have y1 := QA.out.free 1
            have y2 := QA.out.free 2
            have y3 := QA.out.free 3
            have y4 := QA.out.free 4
            have y5 := QA.out.free 5
            have y6 := QA.out.free 6
            have y7 := QA.out.free 7
            have y8 := QA.out.free 8
            have y9 := QA.out.free 9
            have y10 := QA.out.free 10
            go_simp
            have PP := Lib.hid (putN (vs := [.string a0, .string a1, .int .i64 a2, .slice xs1 xm1 xc1, .slice xs2 xm2 xc2, .slice xs3 xm3 xc3, .slice xs4 xm4 xc4, .string a3, .int .i64 a4, .string a5, .bool a6]) QA.out rfl)
            obtain ⟨ww83, hnw⟩ : ∃ W, ww81.setCells p 0 [.string a0, .string a1, .int .i64 a2, .slice xs1 xm1 xc1, .slice xs2 xm2 xc2, .slice xs3 xm3 xc3, .slice xs4 xm4 xc4, .string a3, .int .i64 a4, .string a5, .bool a6] = W := ⟨_, rfl⟩
            have hnw2 : (((((((((((ww81.setCell ⟨p, 0, none⟩ (.string a0)).setCell ⟨p, 1, none⟩ (.string a1)).setCell ⟨p, 2, none⟩ (.int .i64 a2)).setCell ⟨p, 3, none⟩ (.slice xs1 xm1 xc1)).setCell ⟨p, 4, none⟩ (.slice xs2 xm2 xc2)).setCell ⟨p, 5, none⟩ (.slice xs3 xm3 xc3)).setCell ⟨p, 6, none⟩ (.slice xs4 xm4 xc4)).setCell ⟨p, 7, none⟩ (.string a3)).setCell ⟨p, 8, none⟩ (.int .i64 a4)).setCell ⟨p, 9, none⟩ (.string a5)).setCell ⟨p, 10, none⟩ (.bool a6)) = ww83 := hnw
            rw [hnw] at PP
            rw [hnw2]
            clear hnw hnw2 z0 y0 z1 y1 z2 y2 z3 y3 z4 y4 z5 y5 z6 y6 z7 y7 z8 y8 z9 y9 z10 y10
            have ZA := Lib.hid (pod_past ZA.out PP.out.size PP.out.far NAp.out)
            have ZB := Lib.hid (pod_past ZB.out PP.out.size PP.out.far NBp.out)
            have QB := Lib.hid (QB.out.block (PP.out.far q (fun e => hpq e.symm)))
            have KK := Lib.hid (show Kept w1 ww83 from PP.out.below _ _ HAP.out KK.out)
            have QA := Lib.hid PP.out.cells
            clear PP
            refine hK9.out _ _ KK.out (fun hHeld84 => ?_)
            clear hK9 K9
            try simp only [Act.put, List.setIfInBounds_toArray, List.set_cons_zero, List.set_cons_succ]
            refine wpAnyH_ready (rs := [7]) (by kernel_rfl) (by simp) (AllReadyH.cons (by rw [List.getElem?_toArray]; exact rfl) (fun K9 hK9 => ?_) AllReadyH.nil)
            have z0 := QB.out.at_ 0 _ rfl
            have z1 := QB.out.at_ 1 _ rfl
            have z2 := QB.out.at_ 2 _ rfl
            have z3 := QB.out.at_ 3 _ rfl
            have z4 := QB.out.at_ 4 _ rfl
            have z5 := QB.out.at_ 5 _ rfl
            have z6 := QB.out.at_ 6 _ rfl
            have z7 := QB.out.at_ 7 _ rfl
            have z8 := QB.out.at_ 8 _ rfl
            have z9 := QB.out.at_ 9 _ rfl
            have z10 := QB.out.at_ 10 _ rfl
            have y0 := QB.out.free 0
            have y1 := QB.out.free 1
            have y2 := QB.out.free 2
            have y3 := QB.out.free 3
            have y4 := QB.out.free 4
            have y5 := QB.out.free 5
            have y6 := QB.out.free 6
            have y7 := QB.out.free 7
            have y8 := QB.out.free 8
            have y9 := QB.out.free 9
            have y10 := QB.out.free 10
            go_simp
            have PP := Lib.hid (putN (vs := [.string b0, .string b1, .int .i64 b2, .slice ys1 ym1 yc1, .slice ys2 ym2 yc2, .slice ys3 ym3 yc3, .slice ys4 ym4 yc4, .string b3, .int .i64 b4, .string b5, .bool b6]) QB.out rfl)
            obtain ⟨ww85, hnw⟩ : ∃ W, ww83.setCells q 0 [.string b0, .string b1, .int .i64 b2, .slice ys1 ym1 yc1, .slice ys2 ym2 yc2, .slice ys3 ym3 yc3, .slice ys4 ym4 yc4, .string b3, .int .i64 b4, .string b5, .bool b6] = W := ⟨_, rfl⟩
            have hnw2 : (((((((((((ww83.setCell ⟨q, 0, none⟩ (.string b0)).setCell ⟨q, 1, none⟩ (.string b1)).setCell ⟨q, 2, none⟩ (.int .i64 b2)).setCell ⟨q, 3, none⟩ (.slice ys1 ym1 yc1)).setCell ⟨q, 4, none⟩ (.slice ys2 ym2 yc2)).setCell ⟨q, 5, none⟩ (.slice ys3 ym3 yc3)).setCell ⟨q, 6, none⟩ (.slice ys4 ym4 yc4)).setCell ⟨q, 7, none⟩ (.string b3)).setCell ⟨q, 8, none⟩ (.int .i64 b4)).setCell ⟨q, 9, none⟩ (.string b5)).setCell ⟨q, 10, none⟩ (.bool b6)) = ww85 := hnw
            rw [hnw] at PP
            rw [hnw2]
            clear hnw hnw2 z0 y0 z1 y1 z2 y2 z3 y3 z4 y4 z5 y5 z6 y6 z7 y7 z8 y8 z9 y9 z10 y10
            have ZA := Lib.hid (pod_past ZA.out PP.out.size PP.out.far NAq.out)
            have ZB := Lib.hid (pod_past ZB.out PP.out.size PP.out.far NBq.out)
            have QA := Lib.hid (QA.out.block (PP.out.far p hpq))
            have KK := Lib.hid (show Kept w1 ww85 from PP.out.below _ _ HBP.out KK.out)
            have QB := Lib.hid PP.out.cells
            clear PP
            refine hK9.out _ _ KK.out (fun hHeld86 => ?_)
            clear hK9 K9
            try simp only [Act.put, List.setIfInBounds_toArray, List.set_cons_zero, List.set_cons_succ]
            refine wpAnyH_done (by kernel_rfl) ?_ _
            go_wp2
            go_meet
            case rel => exact ⟨p, q, rfl, rfl, xs1, xm1, xc1, xs2, xm2, xc2, xs3, xm3, xc3, xs4, xm4, xc4, ys1, ym1, yc1, ys2, ym2, yc2, ys3, ym3, yc3, ys4, ym4, yc4, QA.out, QB.out, ZA.out, ZB.out, KK.out⟩
        · skip
          go_simp
          have k := kept_alloc wd (.cells #[.string ⟨#[]⟩, .string ⟨#[]⟩, .int .i64 0, .slice none 0 0, .slice none 0 0, .slice none 0 0, .slice none 0 0, .string ⟨#[]⟩, .int .i64 0, .string ⟨#[]⟩, .bool false] 38)
          have hn := freshN wd (.string ⟨#[]⟩) [.string ⟨#[]⟩, .int .i64 0, .slice none 0 0, .slice none 0 0, .slice none 0 0, .slice none 0 0, .string ⟨#[]⟩, .int .i64 0, .string ⟨#[]⟩, .bool false] 38 _ (Kept.refl _)
          have hp9 : w1.heap.size ≤ wd.heap.size := KK.out.size
          obtain ⟨q, hqe⟩ : ∃ z, wd.heap.size = z := ⟨_, rfl⟩
          rw [hqe] at hn hp9  ⊢
          obtain ⟨ww87, hnw⟩ : ∃ W, wd.alloc (.cells #[.string ⟨#[]⟩, .string ⟨#[]⟩, .int .i64 0, .slice none 0 0, .slice none 0 0, .slice none 0 0, .slice none 0 0, .string ⟨#[]⟩, .int .i64 0, .string ⟨#[]⟩, .bool false] 38) = W := ⟨_, rfl⟩
          rw [hnw] at hn k ⊢
          clear hnw hqe
          have KK := Lib.hid (KK.out.trans k)
          have QB := Lib.hid hn
          have HBP := Lib.hid hp9
          clear hn k hp9
          refine hK9.out _ _ KK.out (fun hHeld88 => ?_)
          clear hK9 K9
          try simp only [Act.put, List.setIfInBounds_toArray, List.set_cons_zero, List.set_cons_succ]
          refine wpAnyH_ready (rs := [1, 4]) (by kernel_rfl) (by simp) (AllReadyH.cons (by rw [List.getElem?_toArray]; exact rfl) (fun K9 hK9 => ?_) (AllReadyH.cons (by rw [List.getElem?_toArray]; exact rfl) (fun K9 hK9 => ?_) AllReadyH.nil))
          · skip
            go_simp
            refine (HOA.out _ KK.out).mono ?_
            rintro e9 ww89 ⟨xs1, xm1, xc1, xs2, xm2, xc2, xs3, xm3, xc3, xs4, xm4, xc4, rfl, hz, hw, k⟩
            have KK := Lib.hid (KK.out.trans k)
            have NAq := Lib.hid (hw.lo_not QB.out.lt)
            have QB := Lib.hid (CellsN.kept QB.out k)
            have ZA := Lib.hid hz
            have WA := Lib.hid hw
            clear hz hw k
            refine hK9.out _ _ KK.out (fun hHeld90 => ?_)
            clear hK9 K9
            try simp only [Act.put, List.setIfInBounds_toArray, List.set_cons_zero, List.set_cons_succ]
            refine wpAnyH_ready (rs := [3, 4]) (by kernel_rfl) (by simp) (AllReadyH.cons (by rw [List.getElem?_toArray]; exact rfl) (fun K9 hK9 => ?_) (AllReadyH.cons (by rw [List.getElem?_toArray]; exact rfl) (fun K9 hK9 => ?_) AllReadyH.nil))
            · skip
              go_simp
              refine (HOB.out _ KK.out).mono ?_
              rintro e9 ww91 ⟨ys1, ym1, yc1, ys2, ym2, yc2, ys3, ym3, yc3, ys4, ym4, yc4, rfl, hz, hw, k⟩
              have KK := Lib.hid (KK.out.trans k)
              have NBq := Lib.hid (hw.lo_not QB.out.lt)
              have ZA := Lib.hid (ZA.out.kept k)
              have WA := Lib.hid (WA.out.up k.size)
              have QB := Lib.hid (CellsN.kept QB.out k)
              have ZB := Lib.hid hz
              have WB := Lib.hid hw
              clear hz hw k
              refine hK9.out _ _ KK.out (fun hHeld92 => ?_)
              clear hK9 K9
              try simp only [Act.put, List.setIfInBounds_toArray, List.set_cons_zero, List.set_cons_succ]
              refine wpAnyH_ready (rs := [4]) (by kernel_rfl) (by simp) (AllReadyH.cons (by rw [List.getElem?_toArray]; exact rfl) (fun K9 hK9 => ?_) AllReadyH.nil)
              go_simp
              have k := kept_alloc ww91 (.cells #[.string ⟨#[]⟩, .string ⟨#[]⟩, .int .i64 0, .slice none 0 0, .slice none 0 0, .slice none 0 0, .slice none 0 0, .string ⟨#[]⟩, .int .i64 0, .string ⟨#[]⟩, .bool false] 38)
              have hn := freshN ww91 (.string ⟨#[]⟩) [.string ⟨#[]⟩, .int .i64 0, .slice none 0 0, .slice none 0 0, .slice none 0 0, .slice none 0 0, .string ⟨#[]⟩, .int .i64 0, .string ⟨#[]⟩, .bool false] 38 _ (Kept.refl _)
              have hp9 : w1.heap.size ≤ ww91.heap.size := KK.out.size
              have hpq : ww91.heap.size ≠ q := by have := QB.out.lt; omega
              have nA := WA.out.hi_not (Nat.le_refl ww91.heap.size)
              have nB := WB.out.hi_not (Nat.le_refl ww91.heap.size)
              obtain ⟨p, hpe⟩ : ∃ z, ww91.heap.size = z := ⟨_, rfl⟩
              rw [hpe] at hn hp9 hpq nA nB ⊢
              have NAp := Lib.hid nA
              clear nA
              have NBp := Lib.hid nB
              clear nB
              obtain ⟨ww93, hnw⟩ : ∃ W, ww91.alloc (.cells #[.string ⟨#[]⟩, .string ⟨#[]⟩, .int .i64 0, .slice none 0 0, .slice none 0 0, .slice none 0 0, .slice none 0 0, .string ⟨#[]⟩, .int .i64 0, .string ⟨#[]⟩, .bool false] 38) = W := ⟨_, rfl⟩
              rw [hnw] at hn k ⊢
              clear hnw hpe
              have KK := Lib.hid (KK.out.trans k)
              have ZA := Lib.hid (ZA.out.kept k)
              have WA := Lib.hid (WA.out.up k.size)
              have ZB := Lib.hid (ZB.out.kept k)
              have WB := Lib.hid (WB.out.up k.size)
              have QB := Lib.hid (CellsN.kept QB.out k)
              have QA := Lib.hid hn
              have HAP := Lib.hid hp9
              clear hn k hp9
              refine hK9.out _ _ KK.out (fun hHeld94 => ?_)
              clear hK9 K9
              try simp only [Act.put, List.setIfInBounds_toArray, List.set_cons_zero, List.set_cons_succ]
              refine wpAnyH_ready (rs := [6]) (by kernel_rfl) (by simp) (AllReadyH.cons (by rw [List.getElem?_toArray]; exact rfl) (fun K9 hK9 => ?_) AllReadyH.nil)
              have z0 := QA.out.at_ 0 _ rfl
              have z1 := QA.out.at_ 1 _ rfl
              have z2 := QA.out.at_ 2 _ rfl
              have z3 := QA.out.at_ 3 _ rfl
              have z4 := QA.out.at_ 4 _ rfl
              have z5 := QA.out.at_ 5 _ rfl
              have z6 := QA.out.at_ 6 _ rfl
              have z7 := QA.out.at_ 7 _ rfl
              have z8 := QA.out.at_ 8 _ rfl
              have z9 := QA.out.at_ 9 _ rfl
              have z10 := QA.out.at_ 10 _ rfl
              have y0 := QA.out.free 0
              have y1 := QA.out.free 1
              have y2 := QA.out.free 2
              have y3 := QA.out.free 3
              have y4 := QA.out.free 4
              have y5 := QA.out.free 5
              have y6 := QA.out.free 6
              have y7 := QA.out.free 7
              have y8 := QA.out.free 8
              have y9 := QA.out.free 9
              have y10 := QA.out.free 10
              go_simp
              have PP := Lib.hid (putN (vs := [.string a0, .string a1, .int .i64 a2, .slice xs1 xm1 xc1, .slice xs2 xm2 xc2, .slice xs3 xm3 xc3, .slice xs4 xm4 xc4, .string a3, .int .i64 a4, .string a5, .bool a6]) QA.out rfl)
              obtain ⟨ww95, hnw⟩ : ∃ W, ww93.setCells p 0 [.string a0, .string a1, .int .i64 a2, .slice xs1 xm1 xc1, .slice xs2 xm2 xc2, .slice xs3 xm3 xc3, .slice xs4 xm4 xc4, .string a3, .int .i64 a4, .string a5, .bool a6] = W := ⟨_, rfl⟩
              have hnw2 : (((((((((((ww93.setCell ⟨p, 0, none⟩ (.string a0)).setCell ⟨p, 1, none⟩ (.string a1)).setCell ⟨p, 2, none⟩ (.int .i64 a2)).setCell ⟨p, 3, none⟩ (.slice xs1 xm1 xc1)).setCell ⟨p, 4, none⟩ (.slice xs2 xm2 xc2)).setCell ⟨p, 5, none⟩ (.slice xs3 xm3 xc3)).setCell ⟨p, 6, none⟩ (.slice xs4 xm4 xc4)).setCell ⟨p, 7, none⟩ (.string a3)).setCell ⟨p, 8, none⟩ (.int .i64 a4)).setCell ⟨p, 9, none⟩ (.string a5)).setCell ⟨p, 10, none⟩ (.bool a6)) = ww95 := hnw
              rw [hnw] at PP
              rw [hnw2]
              clear hnw hnw2 z0 y0 z1 y1 z2 y2 z3 y3 z4 y4 z5 y5 z6 y6 z7 y7 z8 y8 z9 y9 z10 y10
              have ZA := Lib.hid (pod_past ZA.out PP.out.size PP.out.far NAp.out)
              have ZB := Lib.hid (pod_past ZB.out PP.out.size PP.out.far NBp.out)
              have QB := Lib.hid (QB.out.block (PP.out.far q (fun e => hpq e.symm)))
              have KK := Lib.hid (show Kept w1 ww95 from PP.out.below _ _ HAP.out KK.out)
              have QA := Lib.hid PP.out.cells
              clear PP
              refine hK9.out _ _ KK.out (fun hHeld96 => ?_)
              clear hK9 K9
              try simp only [Act.put, List.setIfInBounds_toArray, List.set_cons_zero, List.set_cons_succ]
              refine wpAnyH_ready (rs := [7]) (by kernel_rfl) (by simp) (AllReadyH.cons (by rw [List.getElem?_toArray]; exact rfl) (fun K9 hK9 => ?_) AllReadyH.nil)
              have z0 := QB.out.at_ 0 _ rfl
              have z1 := QB.out.at_ 1 _ rfl
              have z2 := QB.out.at_ 2 _ rfl
              have z3 := QB.out.at_ 3 _ rfl
              have z4 := QB.out.at_ 4 _ rfl
              have z5 := QB.out.at_ 5 _ rfl
              have z6 := QB.out.at_ 6 _ rfl
              have z7 := QB.out.at_ 7 _ rfl
              have z8 := QB.out.at_ 8 _ rfl
              have z9 := QB.out.at_ 9 _ rfl
              have z10 := QB.out.at_ 10 _ rfl
              have y0 := QB.out.free 0
              have y1 := QB.out.free 1
              have y2 := QB.out.free 2
              have y3 := QB.out.free 3
              have y4 := QB.out.free 4
              have y5 := QB.out.free 5
              have y6 := QB.out.free 6
              have y7 := QB.out.free 7
              have y8 := QB.out.free 8
              have y9 := QB.out.free 9
              have y10 := QB.out.free 10
              go_simp
              have PP := Lib.hid (putN (vs := [.string b0, .string b1, .int .i64 b2, .slice ys1 ym1 yc1, .slice ys2 ym2 yc2, .slice ys3 ym3 yc3, .slice ys4 ym4 yc4, .string b3, .int .i64 b4, .string b5, .bool b6]) QB.out rfl)
              obtain ⟨ww97, hnw⟩ : ∃ W, ww95.setCells q 0 [.string b0, .string b1, .int .i64 b2, .slice ys1 ym1 yc1, .slice ys2 ym2 yc2, .slice ys3 ym3 yc3, .slice ys4 ym4 yc4, .string b3, .int .i64 b4, .string b5, .bool b6] = W := ⟨_, rfl⟩
              have hnw2 : (((((((((((ww95.setCell ⟨q, 0, none⟩ (.string b0)).setCell ⟨q, 1, none⟩ (.string b1)).setCell ⟨q, 2, none⟩ (.int .i64 b2)).setCell ⟨q, 3, none⟩ (.slice ys1 ym1 yc1)).setCell ⟨q, 4, none⟩ (.slice ys2 ym2 yc2)).setCell ⟨q, 5, none⟩ (.slice ys3 ym3 yc3)).setCell ⟨q, 6, none⟩ (.slice ys4 ym4 yc4)).setCell ⟨q, 7, none⟩ (.string b3)).setCell ⟨q, 8, none⟩ (.int .i64 b4)).setCell ⟨q, 9, none⟩ (.string b5)).setCell ⟨q, 10, none⟩ (.bool b6)) = ww97 := hnw
              rw [hnw] at PP
              rw [hnw2]
              clear hnw hnw2 z0 y0 z1 y1 z2 y2 z3 y3 z4 y4 z5 y5 z6 y6 z7 y7 z8 y8 z9 y9 z10 y10
              have ZA := Lib.hid (pod_past ZA.out PP.out.size PP.out.far NAq.out)
              have ZB := Lib.hid (pod_past ZB.out PP.out.size PP.out.far NBq.out)
              have QA := Lib.hid (QA.out.block (PP.out.far p hpq))
              have KK := Lib.hid (show Kept w1 ww97 from PP.out.below _ _ HBP.out KK.out)
              have QB := Lib.hid PP.out.cells
              clear PP
              refine hK9.out _ _ KK.out (fun hHeld98 => ?_)
              clear hK9 K9
              try simp only [Act.put, List.setIfInBounds_toArray, List.set_cons_zero, List.set_cons_succ]
              refine wpAnyH_done (by kernel_rfl) ?_ _
              go_wp2
              go_meet
              case rel => exact ⟨p, q, rfl, rfl, xs1, xm1, xc1, xs2, xm2, xc2, xs3, xm3, xc3, xs4, xm4, xc4, ys1, ym1, yc1, ys2, ym2, yc2, ys3, ym3, yc3, ys4, ym4, yc4, QA.out, QB.out, ZA.out, ZB.out, KK.out⟩
            · skip
              go_simp
              have k := kept_alloc ww89 (.cells #[.string ⟨#[]⟩, .string ⟨#[]⟩, .int .i64 0, .slice none 0 0, .slice none 0 0, .slice none 0 0, .slice none 0 0, .string ⟨#[]⟩, .int .i64 0, .string ⟨#[]⟩, .bool false] 38)
              have hn := freshN ww89 (.string ⟨#[]⟩) [.string ⟨#[]⟩, .int .i64 0, .slice none 0 0, .slice none 0 0, .slice none 0 0, .slice none 0 0, .string ⟨#[]⟩, .int .i64 0, .string ⟨#[]⟩, .bool false] 38 _ (Kept.refl _)
              have hp9 : w1.heap.size ≤ ww89.heap.size := KK.out.size
              have hpq : ww89.heap.size ≠ q := by have := QB.out.lt; omega
              have nA := WA.out.hi_not (Nat.le_refl ww89.heap.size)
              obtain ⟨p, hpe⟩ : ∃ z, ww89.heap.size = z := ⟨_, rfl⟩
              rw [hpe] at hn hp9 hpq nA ⊢
              have NAp := Lib.hid nA
              clear nA
              obtain ⟨ww99, hnw⟩ : ∃ W, ww89.alloc (.cells #[.string ⟨#[]⟩, .string ⟨#[]⟩, .int .i64 0, .slice none 0 0, .slice none 0 0, .slice none 0 0, .slice none 0 0, .string ⟨#[]⟩, .int .i64 0, .string ⟨#[]⟩, .bool false] 38) = W := ⟨_, rfl⟩
              rw [hnw] at hn k ⊢
              clear hnw hpe
              have KK := Lib.hid (KK.out.trans k)
              have ZA := Lib.hid (ZA.out.kept k)
              have WA := Lib.hid (WA.out.up k.size)
              have QB := Lib.hid (CellsN.kept QB.out k)
              have QA := Lib.hid hn
              have HAP := Lib.hid hp9
              clear hn k hp9
              refine hK9.out _ _ KK.out (fun hHeld100 => ?_)
              clear hK9 K9
              try simp only [Act.put, List.setIfInBounds_toArray, List.set_cons_zero, List.set_cons_succ]
              refine wpAnyH_ready (rs := [3]) (by kernel_rfl) (by simp) (AllReadyH.cons (by rw [List.getElem?_toArray]; exact rfl) (fun K9 hK9 => ?_) AllReadyH.nil)
              go_simp
              refine (HOB.out _ KK.out).mono ?_
              rintro e9 ww101 ⟨ys1, ym1, yc1, ys2, ym2, yc2, ys3, ym3, yc3, ys4, ym4, yc4, rfl, hz, hw, k⟩
              have KK := Lib.hid (KK.out.trans k)
              have NBp := Lib.hid (hw.lo_not QA.out.lt)
              have NBq := Lib.hid (hw.lo_not QB.out.lt)
              have ZA := Lib.hid (ZA.out.kept k)
              have WA := Lib.hid (WA.out.up k.size)
              have QA := Lib.hid (CellsN.kept QA.out k)
              have QB := Lib.hid (CellsN.kept QB.out k)
              have ZB := Lib.hid hz
              have WB := Lib.hid hw
              clear hz hw k
              refine hK9.out _ _ KK.out (fun hHeld102 => ?_)
              clear hK9 K9
              try simp only [Act.put, List.setIfInBounds_toArray, List.set_cons_zero, List.set_cons_succ]
              refine wpAnyH_ready (rs := [6]) (by kernel_rfl) (by simp) (AllReadyH.cons (by rw [List.getElem?_toArray]; exact rfl) (fun K9 hK9 => ?_) AllReadyH.nil)
              have z0 := QA.out.at_ 0 _ rfl
              have z1 := QA.out.at_ 1 _ rfl
              have z2 := QA.out.at_ 2 _ rfl
              have z3 := QA.out.at_ 3 _ rfl
              have z4 := QA.out.at_ 4 _ rfl
              have z5 := QA.out.at_ 5 _ rfl
              have z6 := QA.out.at_ 6 _ rfl
              have z7 := QA.out.at_ 7 _ rfl
              have z8 := QA.out.at_ 8 _ rfl
              have z9 := QA.out.at_ 9 _ rfl
              have z10 := QA.out.at_ 10 _ rfl
              have y0 := QA.out.free 0
              have y1 := QA.out.free 1
              have y2 := QA.out.free 2
              have y3 := QA.out.free 3
              have y4 := QA.out.free 4
              have y5 := QA.out.free 5
              have y6 := QA.out.free 6
              have y7 := QA.out.free 7
              have y8 := QA.out.free 8
              have y9 := QA.out.free 9
              have y10 := QA.out.free 10
              go_simp
              have PP := Lib.hid (putN (vs := [.string a0, .string a1, .int .i64 a2, .slice xs1 xm1 xc1, .slice xs2 xm2 xc2, .slice xs3 xm3 xc3, .slice xs4 xm4 xc4, .string a3, .int .i64 a4, .string a5, .bool a6]) QA.out rfl)
              obtain ⟨ww103, hnw⟩ : ∃ W, ww101.setCells p 0 [.string a0, .string a1, .int .i64 a2, .slice xs1 xm1 xc1, .slice xs2 xm2 xc2, .slice xs3 xm3 xc3, .slice xs4 xm4 xc4, .string a3, .int .i64 a4, .string a5, .bool a6] = W := ⟨_, rfl⟩
              have hnw2 : (((((((((((ww101.setCell ⟨p, 0, none⟩ (.string a0)).setCell ⟨p, 1, none⟩ (.string a1)).setCell ⟨p, 2, none⟩ (.int .i64 a2)).setCell ⟨p, 3, none⟩ (.slice xs1 xm1 xc1)).setCell ⟨p, 4, none⟩ (.slice xs2 xm2 xc2)).setCell ⟨p, 5, none⟩ (.slice xs3 xm3 xc3)).setCell ⟨p, 6, none⟩ (.slice xs4 xm4 xc4)).setCell ⟨p, 7, none⟩ (.string a3)).setCell ⟨p, 8, none⟩ (.int .i64 a4)).setCell ⟨p, 9, none⟩ (.string a5)).setCell ⟨p, 10, none⟩ (.bool a6)) = ww103 := hnw
              rw [hnw] at PP
              rw [hnw2]
              clear hnw hnw2 z0 y0 z1 y1 z2 y2 z3 y3 z4 y4 z5 y5 z6 y6 z7 y7 z8 y8 z9 y9 z10 y10
              have ZA := Lib.hid (pod_past ZA.out PP.out.size PP.out.far NAp.out)
              have ZB := Lib.hid (pod_past ZB.out PP.out.size PP.out.far NBp.out)
              have QB := Lib.hid (QB.out.block (PP.out.far q (fun e => hpq e.symm)))
              have KK := Lib.hid (show Kept w1 ww103 from PP.out.below _ _ HAP.out KK.out)
              have QA := Lib.hid PP.out.cells
              clear PP
              refine hK9.out _ _ KK.out (fun hHeld104 => ?_)
              clear hK9 K9
              try simp only [Act.put, List.setIfInBounds_toArray, List.set_cons_zero, List.set_cons_succ]
              refine wpAnyH_ready (rs := [7]) (by kernel_rfl) (by simp) (AllReadyH.cons (by rw [List.getElem?_toArray]; exact rfl) (fun K9 hK9 => ?_) AllReadyH.nil)
              have z0 := QB.out.at_ 0 _ rfl
              have z1 := QB.out.at_ 1 _ rfl
              have z2 := QB.out.at_ 2 _ rfl
              have z3 := QB.out.at_ 3 _ rfl
              have z4 := QB.out.at_ 4 _ rfl
              have z5 := QB.out.at_ 5 _ rfl
              have z6 := QB.out.at_ 6 _ rfl
              have z7 := QB.out.at_ 7 _ rfl
              have z8 := QB.out.at_ 8 _ rfl
              have z9 := QB.out.at_ 9 _ rfl
              have z10 := QB.out.at_ 10 _ rfl
              have y0 := QB.out.free 0
              have y1 := QB.out.free 1
              have y2 := QB.out.free 2
              have y3 := QB.out.free 3
              have y4 := QB.out.free 4
              have y5 := QB.out.free 5
              have y6 := QB.out.free 6
              have y7 := QB.out.free 7
              have y8 := QB.out.free 8
              have y9 := QB.out.free 9
              have y10 := QB.out.free 10
              go_simp
              have PP := Lib.hid (putN (vs := [.string b0, .string b1, .int .i64 b2, .slice ys1 ym1 yc1, .slice ys2 ym2 yc2, .slice ys3 ym3 yc3, .slice ys4 ym4 yc4, .string b3, .int .i64 b4, .string b5, .bool b6]) QB.out rfl)
              obtain ⟨ww105, hnw⟩ : ∃ W, ww103.setCells q 0 [.string b0, .string b1, .int .i64 b2, .slice ys1 ym1 yc1, .slice ys2 ym2 yc2, .slice ys3 ym3 yc3, .slice ys4 ym4 yc4, .string b3, .int .i64 b4, .string b5, .bool b6] = W := ⟨_, rfl⟩
              have hnw2 : (((((((((((ww103.setCell ⟨q, 0, none⟩ (.string b0)).setCell ⟨q, 1, none⟩ (.string b1)).setCell ⟨q, 2, none⟩ (.int .i64 b2)).setCell ⟨q, 3, none⟩ (.slice ys1 ym1 yc1)).setCell ⟨q, 4, none⟩ (.slice ys2 ym2 yc2)).setCell ⟨q, 5, none⟩ (.slice ys3 ym3 yc3)).setCell ⟨q, 6, none⟩ (.slice ys4 ym4 yc4)).setCell ⟨q, 7, none⟩ (.string b3)).setCell ⟨q, 8, none⟩ (.int .i64 b4)).setCell ⟨q, 9, none⟩ (.string b5)).setCell ⟨q, 10, none⟩ (.bool b6)) = ww105 := hnw
              rw [hnw] at PP
              rw [hnw2]
              clear hnw hnw2 z0 y0 z1 y1 z2 y2 z3 y3 z4 y4 z5 y5 z6 y6 z7 y7 z8 y8 z9 y9 z10 y10
              have ZA := Lib.hid (pod_past ZA.out PP.out.size PP.out.far NAq.out)
              have ZB := Lib.hid (pod_past ZB.out PP.out.size PP.out.far NBq.out)
              have QA := Lib.hid (QA.out.block (PP.out.far p hpq))
              have KK := Lib.hid (show Kept w1 ww105 from PP.out.below _ _ HBP.out KK.out)
              have QB := Lib.hid PP.out.cells
              clear PP
              refine hK9.out _ _ KK.out (fun hHeld106 => ?_)
              clear hK9 K9
              try simp only [Act.put, List.setIfInBounds_toArray, List.set_cons_zero, List.set_cons_succ]
              refine wpAnyH_done (by kernel_rfl) ?_ _
              go_wp2
              go_meet
              case rel => exact ⟨p, q, rfl, rfl, xs1, xm1, xc1, xs2, xm2, xc2, xs3, xm3, xc3, xs4, xm4, xc4, ys1, ym1, yc1, ys2, ym2, yc2, ys3, ym3, yc3, ys4, ym4, yc4, QA.out, QB.out, ZA.out, ZB.out, KK.out⟩
          · skip
            go_simp
            have k := kept_alloc ww87 (.cells #[.string ⟨#[]⟩, .string ⟨#[]⟩, .int .i64 0, .slice none 0 0, .slice none 0 0, .slice none 0 0, .slice none 0 0, .string ⟨#[]⟩, .int .i64 0, .string ⟨#[]⟩, .bool false] 38)
            have hn := freshN ww87 (.string ⟨#[]⟩) [.string ⟨#[]⟩, .int .i64 0, .slice none 0 0, .slice none 0 0, .slice none 0 0, .slice none 0 0, .string ⟨#[]⟩, .int .i64 0, .string ⟨#[]⟩, .bool false] 38 _ (Kept.refl _)
            have hp9 : w1.heap.size ≤ ww87.heap.size := KK.out.size
            have hpq : ww87.heap.size ≠ q := by have := QB.out.lt; omega
            obtain ⟨p, hpe⟩ : ∃ z, ww87.heap.size = z := ⟨_, rfl⟩
            rw [hpe] at hn hp9 hpq ⊢
            obtain ⟨ww107, hnw⟩ : ∃ W, ww87.alloc (.cells #[.string ⟨#[]⟩, .string ⟨#[]⟩, .int .i64 0, .slice none 0 0, .slice none 0 0, .slice none 0 0, .slice none 0 0, .string ⟨#[]⟩, .int .i64 0, .string ⟨#[]⟩, .bool false] 38) = W := ⟨_, rfl⟩
            rw [hnw] at hn k ⊢
            clear hnw hpe
            have KK := Lib.hid (KK.out.trans k)
            have QB := Lib.hid (CellsN.kept QB.out k)
            have QA := Lib.hid hn
            have HAP := Lib.hid hp9
            clear hn k hp9
            refine hK9.out _ _ KK.out (fun hHeld108 => ?_)
            clear hK9 K9
            try simp only [Act.put, List.setIfInBounds_toArray, List.set_cons_zero, List.set_cons_succ]
            refine wpAnyH_ready (rs := [1]) (by kernel_rfl) (by simp) (AllReadyH.cons (by rw [List.getElem?_toArray]; exact rfl) (fun K9 hK9 => ?_) AllReadyH.nil)
            go_simp
            refine (HOA.out _ KK.out).mono ?_
            rintro e9 ww109 ⟨xs1, xm1, xc1, xs2, xm2, xc2, xs3, xm3, xc3, xs4, xm4, xc4, rfl, hz, hw, k⟩
            have KK := Lib.hid (KK.out.trans k)
            have NAp := Lib.hid (hw.lo_not QA.out.lt)
            have NAq := Lib.hid (hw.lo_not QB.out.lt)
            have QA := Lib.hid (CellsN.kept QA.out k)
            have QB := Lib.hid (CellsN.kept QB.out k)
            have ZA := Lib.hid hz
            have WA := Lib.hid hw
            clear hz hw k
            refine hK9.out _ _ KK.out (fun hHeld110 => ?_)
            clear hK9 K9
            try simp only [Act.put, List.setIfInBounds_toArray, List.set_cons_zero, List.set_cons_succ]
            refine wpAnyH_ready (rs := [3]) (by kernel_rfl) (by simp) (AllReadyH.cons (by rw [List.getElem?_toArray]; exact rfl) (fun K9 hK9 => ?_) AllReadyH.nil)
            go_simp
            refine (HOB.out _ KK.out).mono ?_
            rintro e9 ww111 ⟨ys1, ym1, yc1, ys2, ym2, yc2, ys3, ym3, yc3, ys4, ym4, yc4, rfl, hz, hw, k⟩
            have KK := Lib.hid (KK.out.trans k)
            have NBp := Lib.hid (hw.lo_not QA.out.lt)
            have NBq := Lib.hid (hw.lo_not QB.out.lt)
            have ZA := Lib.hid (ZA.out.kept k)
            have WA := Lib.hid (WA.out.up k.size)
            have QA := Lib.hid (CellsN.kept QA.out k)
            have QB := Lib.hid (CellsN.kept QB.out k)
            have ZB := Lib.hid hz
            have WB := Lib.hid hw
            clear hz hw k
            refine hK9.out _ _ KK.out (fun hHeld112 => ?_)
            clear hK9 K9
            try simp only [Act.put, List.setIfInBounds_toArray, List.set_cons_zero, List.set_cons_succ]
            refine wpAnyH_ready (rs := [6]) (by kernel_rfl) (by simp) (AllReadyH.cons (by rw [List.getElem?_toArray]; exact rfl) (fun K9 hK9 => ?_) AllReadyH.nil)
            have z0 := QA.out.at_ 0 _ rfl
            have z1 := QA.out.at_ 1 _ rfl
            have z2 := QA.out.at_ 2 _ rfl
            have z3 := QA.out.at_ 3 _ rfl
            have z4 := QA.out.at_ 4 _ rfl
            have z5 := QA.out.at_ 5 _ rfl
            have z6 := QA.out.at_ 6 _ rfl
            have z7 := QA.out.at_ 7 _ rfl
            have z8 := QA.out.at_ 8 _ rfl
            have z9 := QA.out.at_ 9 _ rfl
            have z10 := QA.out.at_ 10 _ rfl
            have y0 := QA.out.free 0
            have y1 := QA.out.free 1
            have y2 := QA.out.free 2
            have y3 := QA.out.free 3
            have y4 := QA.out.free 4
            have y5 := QA.out.free 5
            have y6 := QA.out.free 6
            have y7 := QA.out.free 7
            have y8 := QA.out.free 8
            have y9 := QA.out.free 9
            have y10 := QA.out.free 10
            go_simp
            have PP := Lib.hid (putN (vs := [.string a0, .string a1, .int .i64 a2, .slice xs1 xm1 xc1, .slice xs2 xm2 xc2, .slice xs3 xm3 xc3, .slice xs4 xm4 xc4, .string a3, .int .i64 a4, .string a5, .bool a6]) QA.out rfl)
            obtain ⟨ww113, hnw⟩ : ∃ W, ww111.setCells p 0 [.string a0, .string a1, .int .i64 a2, .slice xs1 xm1 xc1, .slice xs2 xm2 xc2, .slice xs3 xm3 xc3, .slice xs4 xm4 xc4, .string a3, .int .i64 a4, .string a5, .bool a6] = W := ⟨_, rfl⟩
            have hnw2 : (((((((((((ww111.setCell ⟨p, 0, none⟩ (.string a0)).setCell ⟨p, 1, none⟩ (.string a1)).setCell ⟨p, 2, none⟩ (.int .i64 a2)).setCell ⟨p, 3, none⟩ (.slice xs1 xm1 xc1)).setCell ⟨p, 4, none⟩ (.slice xs2 xm2 xc2)).setCell ⟨p, 5, none⟩ (.slice xs3 xm3 xc3)).setCell ⟨p, 6, none⟩ (.slice xs4 xm4 xc4)).setCell ⟨p, 7, none⟩ (.string a3)).setCell ⟨p, 8, none⟩ (.int .i64 a4)).setCell ⟨p, 9, none⟩ (.string a5)).setCell ⟨p, 10, none⟩ (.bool a6)) = ww113 := hnw
            rw [hnw] at PP
            rw [hnw2]
            clear hnw hnw2 z0 y0 z1 y1 z2 y2 z3 y3 z4 y4 z5 y5 z6 y6 z7 y7 z8 y8 z9 y9 z10 y10
            have ZA := Lib.hid (pod_past ZA.out PP.out.size PP.out.far NAp.out)
            have ZB := Lib.hid (pod_past ZB.out PP.out.size PP.out.far NBp.out)
            have QB := Lib.hid (QB.out.block (PP.out.far q (fun e => hpq e.symm)))
            have KK := Lib.hid (show Kept w1 ww113 from PP.out.below _ _ HAP.out KK.out)
            have QA := Lib.hid PP.out.cells
            clear PP
            refine hK9.out _ _ KK.out (fun hHeld114 => ?_)
            clear hK9 K9
            try simp only [Act.put, List.setIfInBounds_toArray, List.set_cons_zero, List.set_cons_succ]
            refine wpAnyH_ready (rs := [7]) (by kernel_rfl) (by simp) (AllReadyH.cons (by rw [List.getElem?_toArray]; exact rfl) (fun K9 hK9 => ?_) AllReadyH.nil)
            have z0 := QB.out.at_ 0 _ rfl
            have z1 := QB.out.at_ 1 _ rfl
            have z2 := QB.out.at_ 2 _ rfl
            have z3 := QB.out.at_ 3 _ rfl
            have z4 := QB.out.at_ 4 _ rfl
            have z5 := QB.out.at_ 5 _ rfl
            have z6 := QB.out.at_ 6 _ rfl
            have z7 := QB.out.at_ 7 _ rfl
            have z8 := QB.out.at_ 8 _ rfl
            have z9 := QB.out.at_ 9 _ rfl
            have z10 := QB.out.at_ 10 _ rfl
            have y0 := QB.out.free 0
            have y1 := QB.out.free 1
            have y2 := QB.out.free 2
            have y3 := QB.out.free 3
            have y4 := QB.out.free 4
            have y5 := QB.out.free 5
            have y6 := QB.out.free 6
            have y7 := QB.out.free 7
            have y8 := QB.out.free 8
            have y9 := QB.out.free 9
            have y10 := QB.out.free 10
            go_simp
            have PP := Lib.hid (putN (vs := [.string b0, .string b1, .int .i64 b2, .slice ys1 ym1 yc1, .slice ys2 ym2 yc2, .slice ys3 ym3 yc3, .slice ys4 ym4 yc4, .string b3, .int .i64 b4, .string b5, .bool b6]) QB.out rfl)
            obtain ⟨ww115, hnw⟩ : ∃ W, ww113.setCells q 0 [.string b0, .string b1, .int .i64 b2, .slice ys1 ym1 yc1, .slice ys2 ym2 yc2, .slice ys3 ym3 yc3, .slice ys4 ym4 yc4, .string b3, .int .i64 b4, .string b5, .bool b6] = W := ⟨_, rfl⟩
            have hnw2 : (((((((((((ww113.setCell ⟨q, 0, none⟩ (.string b0)).setCell ⟨q, 1, none⟩ (.string b1)).setCell ⟨q, 2, none⟩ (.int .i64 b2)).setCell ⟨q, 3, none⟩ (.slice ys1 ym1 yc1)).setCell ⟨q, 4, none⟩ (.slice ys2 ym2 yc2)).setCell ⟨q, 5, none⟩ (.slice ys3 ym3 yc3)).setCell ⟨q, 6, none⟩ (.slice ys4 ym4 yc4)).setCell ⟨q, 7, none⟩ (.string b3)).setCell ⟨q, 8, none⟩ (.int .i64 b4)).setCell ⟨q, 9, none⟩ (.string b5)).setCell ⟨q, 10, none⟩ (.bool b6)) = ww115 := hnw
            rw [hnw] at PP
            rw [hnw2]
            clear hnw hnw2 z0 y0 z1 y1 z2 y2 z3 y3 z4 y4 z5 y5 z6 y6 z7 y7 z8 y8 z9 y9 z10 y10
            have ZA := Lib.hid (pod_past ZA.out PP.out.size PP.out.far NAq.out)
            have ZB := Lib.hid (pod_past ZB.out PP.out.size PP.out.far NBq.out)
            have QA := Lib.hid (QA.out.block (PP.out.far p hpq))
            have KK := Lib.hid (show Kept w1 ww115 from PP.out.below _ _ HBP.out KK.out)
            have QB := Lib.hid PP.out.cells
            clear PP
            refine hK9.out _ _ KK.out (fun hHeld116 => ?_)
            clear hK9 K9
            try simp only [Act.put, List.setIfInBounds_toArray, List.set_cons_zero, List.set_cons_succ]
            refine wpAnyH_done (by kernel_rfl) ?_ _
            go_wp2
            go_meet
            case rel => exact ⟨p, q, rfl, rfl, xs1, xm1, xc1, xs2, xm2, xc2, xs3, xm3, xc3, xs4, xm4, xc4, ys1, ym1, yc1, ys2, ym2, yc2, ys3, ym3, yc3, ys4, ym4, yc4, QA.out, QB.out, ZA.out, ZB.out, KK.out⟩
      case rest =>
        obtain ⟨p, q, rfl, rfl, xs1, xm1, xc1, xs2, xm2, xc2, xs3, xm3, xc3, xs4, xm4, xc4, ys1, ym1, yc1, ys2, ym2, yc2, ys3, ym3, yc3, ys4, ym4, yc4, hp, hq, za, zb, kk⟩ := hcut
        have K := Lib.hid (K.out.trans kk)
        have HP := Lib.hid (fun W (k : Kept wc W) => CellsN.kept hp k)
        have HQ := Lib.hid (fun W (k : Kept wc W) => CellsN.kept hq k)
        have XA := Lib.hid (fun W (k : Kept wc W) => show PodR W (.agg #[.string a0, .string a1, .int .i64 a2, .slice xs1 xm1 xc1, .slice xs2 xm2 xc2, .slice xs3 xm3 xc3, .slice xs4 xm4 xc4, .string a3, .int .i64 a4, .string a5, .bool a6]) ⟨a0, a1, a2, la1, la2, la3, la4, a3, a4, a5, a6⟩ from ⟨_, _, _, _, rfl, za.kept k⟩)
        have XB := Lib.hid (fun W (k : Kept wc W) => show PodR W (.agg #[.string b0, .string b1, .int .i64 b2, .slice ys1 ym1 yc1, .slice ys2 ym2 yc2, .slice ys3 ym3 yc3, .slice ys4 ym4 yc4, .string b3, .int .i64 b4, .string b5, .bool b6]) ⟨b0, b1, b2, lb1, lb2, lb3, lb4, b3, b4, b5, b6⟩ from ⟨_, _, _, _, rfl, zb.kept k⟩)
        clear za zb kk HOA HOB HOA1 HOB1 HC
        have p0 := hp.at_ 0 _ rfl
        have p1 := hp.at_ 1 _ rfl
        have p2 := hp.at_ 2 _ rfl
        have p3 := hp.at_ 3 _ rfl
        have p4 := hp.at_ 4 _ rfl
        have p5 := hp.at_ 5 _ rfl
        have p6 := hp.at_ 6 _ rfl
        have p7 := hp.at_ 7 _ rfl
        have p8 := hp.at_ 8 _ rfl
        have p9 := hp.at_ 9 _ rfl
        have p10 := hp.at_ 10 _ rfl
        clear hp hq
        go_wp2_with fail
        refine (rcheckPdR (XA.out _ (Kept.refl _)) HCK.out).mono ?_
        rintro e w3 ⟨rfl, k⟩
        have KC := Lib.hid k
        have HS := Lib.hid (show ∀ W, Kept w3 W → W.cell? ⟨w.heap.size, 0, none⟩ = some (.string a0) ∧ W.cell? ⟨w.heap.size, 1, none⟩ = some (.string a1) ∧ W.cell? ⟨w.heap.size, 2, none⟩ = some (.int .i64 a2) ∧ W.cell? ⟨w.heap.size, 3, none⟩ = some (va1) ∧ W.cell? ⟨w.heap.size, 4, none⟩ = some (va2) ∧ W.cell? ⟨w.heap.size, 5, none⟩ = some (va3) ∧ W.cell? ⟨w.heap.size, 6, none⟩ = some (va4) ∧ W.cell? ⟨w.heap.size, 7, none⟩ = some (.string a3) ∧ W.cell? ⟨w.heap.size, 8, none⟩ = some (.int .i64 a4) ∧ W.cell? ⟨w.heap.size, 9, none⟩ = some (.string a5) ∧ W.cell? ⟨w.heap.size, 10, none⟩ = some (.bool a6) ∧ W.cell? ⟨(w.heap.size + 1), 0, none⟩ = some (.string b0) ∧ W.cell? ⟨(w.heap.size + 1), 1, none⟩ = some (.string b1) ∧ W.cell? ⟨(w.heap.size + 1), 2, none⟩ = some (.int .i64 b2) ∧ W.cell? ⟨(w.heap.size + 1), 3, none⟩ = some (vb1) ∧ W.cell? ⟨(w.heap.size + 1), 4, none⟩ = some (vb2) ∧ W.cell? ⟨(w.heap.size + 1), 5, none⟩ = some (vb3) ∧ W.cell? ⟨(w.heap.size + 1), 6, none⟩ = some (vb4) ∧ W.cell? ⟨(w.heap.size + 1), 7, none⟩ = some (.string b3) ∧ W.cell? ⟨(w.heap.size + 1), 8, none⟩ = some (.int .i64 b4) ∧ W.cell? ⟨(w.heap.size + 1), 9, none⟩ = some (.string b5) ∧ W.cell? ⟨(w.heap.size + 1), 10, none⟩ = some (.bool b6) ∧ W.cell? ⟨p, 0, none⟩ = some (.string a0) ∧ W.cell? ⟨p, 1, none⟩ = some (.string a1) ∧ W.cell? ⟨p, 2, none⟩ = some (.int .i64 a2) ∧ W.cell? ⟨p, 3, none⟩ = some (.slice xs1 xm1 xc1) ∧ W.cell? ⟨p, 4, none⟩ = some (.slice xs2 xm2 xc2) ∧ W.cell? ⟨p, 5, none⟩ = some (.slice xs3 xm3 xc3) ∧ W.cell? ⟨p, 6, none⟩ = some (.slice xs4 xm4 xc4) ∧ W.cell? ⟨p, 7, none⟩ = some (.string a3) ∧ W.cell? ⟨p, 8, none⟩ = some (.int .i64 a4) ∧ W.cell? ⟨p, 9, none⟩ = some (.string a5) ∧ W.cell? ⟨p, 10, none⟩ = some (.bool a6) ∧ W.cell? ⟨q, 0, none⟩ = some (.string b0) ∧ W.cell? ⟨q, 1, none⟩ = some (.string b1) ∧ W.cell? ⟨q, 2, none⟩ = some (.int .i64 b2) ∧ W.cell? ⟨q, 3, none⟩ = some (.slice ys1 ym1 yc1) ∧ W.cell? ⟨q, 4, none⟩ = some (.slice ys2 ym2 yc2) ∧ W.cell? ⟨q, 5, none⟩ = some (.slice ys3 ym3 yc3) ∧ W.cell? ⟨q, 6, none⟩ = some (.slice ys4 ym4 yc4) ∧ W.cell? ⟨q, 7, none⟩ = some (.string b3) ∧ W.cell? ⟨q, 8, none⟩ = some (.int .i64 b4) ∧ W.cell? ⟨q, 9, none⟩ = some (.string b5) ∧ W.cell? ⟨q, 10, none⟩ = some (.bool b6) from fun W k => by
          obtain ⟨q0, q1, q2, q3, q4, q5, q6, q7, q8, q9, q10, q11, q12, q13, q14, q15, q16, q17, q18, q19, q20, q21⟩ := HC0.out W (K.out.trans (KC.out.trans k))
          have hp := HP.out W (KC.out.trans k)
          have hq := HQ.out W (KC.out.trans k)
          exact ⟨q0, q1, q2, q3, q4, q5, q6, q7, q8, q9, q10, q11, q12, q13, q14, q15, q16, q17, q18, q19, q20, q21, (hp).at_ 0 _ rfl, (hp).at_ 1 _ rfl, (hp).at_ 2 _ rfl, (hp).at_ 3 _ rfl, (hp).at_ 4 _ rfl, (hp).at_ 5 _ rfl, (hp).at_ 6 _ rfl, (hp).at_ 7 _ rfl, (hp).at_ 8 _ rfl, (hp).at_ 9 _ rfl, (hp).at_ 10 _ rfl, (hq).at_ 0 _ rfl, (hq).at_ 1 _ rfl, (hq).at_ 2 _ rfl, (hq).at_ 3 _ rfl, (hq).at_ 4 _ rfl, (hq).at_ 5 _ rfl, (hq).at_ 6 _ rfl, (hq).at_ 7 _ rfl, (hq).at_ 8 _ rfl, (hq).at_ 9 _ rfl, (hq).at_ 10 _ rfl⟩)
        clear k p0 p1 p2 p3 p4 p5 p6 p7 p8 p9 p10
        go_wp2
        refine wp_region_held_drew (S := fun W => W.cell? ⟨w.heap.size, 0, none⟩ = some (.string a0) ∧ W.cell? ⟨w.heap.size, 1, none⟩ = some (.string a1) ∧ W.cell? ⟨w.heap.size, 2, none⟩ = some (.int .i64 a2) ∧ W.cell? ⟨w.heap.size, 3, none⟩ = some (va1) ∧ W.cell? ⟨w.heap.size, 4, none⟩ = some (va2) ∧ W.cell? ⟨w.heap.size, 5, none⟩ = some (va3) ∧ W.cell? ⟨w.heap.size, 6, none⟩ = some (va4) ∧ W.cell? ⟨w.heap.size, 7, none⟩ = some (.string a3) ∧ W.cell? ⟨w.heap.size, 8, none⟩ = some (.int .i64 a4) ∧ W.cell? ⟨w.heap.size, 9, none⟩ = some (.string a5) ∧ W.cell? ⟨w.heap.size, 10, none⟩ = some (.bool a6) ∧ W.cell? ⟨(w.heap.size + 1), 0, none⟩ = some (.string b0) ∧ W.cell? ⟨(w.heap.size + 1), 1, none⟩ = some (.string b1) ∧ W.cell? ⟨(w.heap.size + 1), 2, none⟩ = some (.int .i64 b2) ∧ W.cell? ⟨(w.heap.size + 1), 3, none⟩ = some (vb1) ∧ W.cell? ⟨(w.heap.size + 1), 4, none⟩ = some (vb2) ∧ W.cell? ⟨(w.heap.size + 1), 5, none⟩ = some (vb3) ∧ W.cell? ⟨(w.heap.size + 1), 6, none⟩ = some (vb4) ∧ W.cell? ⟨(w.heap.size + 1), 7, none⟩ = some (.string b3) ∧ W.cell? ⟨(w.heap.size + 1), 8, none⟩ = some (.int .i64 b4) ∧ W.cell? ⟨(w.heap.size + 1), 9, none⟩ = some (.string b5) ∧ W.cell? ⟨(w.heap.size + 1), 10, none⟩ = some (.bool b6) ∧ W.cell? ⟨p, 0, none⟩ = some (.string a0) ∧ W.cell? ⟨p, 1, none⟩ = some (.string a1) ∧ W.cell? ⟨p, 2, none⟩ = some (.int .i64 a2) ∧ W.cell? ⟨p, 3, none⟩ = some (.slice xs1 xm1 xc1) ∧ W.cell? ⟨p, 4, none⟩ = some (.slice xs2 xm2 xc2) ∧ W.cell? ⟨p, 5, none⟩ = some (.slice xs3 xm3 xc3) ∧ W.cell? ⟨p, 6, none⟩ = some (.slice xs4 xm4 xc4) ∧ W.cell? ⟨p, 7, none⟩ = some (.string a3) ∧ W.cell? ⟨p, 8, none⟩ = some (.int .i64 a4) ∧ W.cell? ⟨p, 9, none⟩ = some (.string a5) ∧ W.cell? ⟨p, 10, none⟩ = some (.bool a6) ∧ W.cell? ⟨q, 0, none⟩ = some (.string b0) ∧ W.cell? ⟨q, 1, none⟩ = some (.string b1) ∧ W.cell? ⟨q, 2, none⟩ = some (.int .i64 b2) ∧ W.cell? ⟨q, 3, none⟩ = some (.slice ys1 ym1 yc1) ∧ W.cell? ⟨q, 4, none⟩ = some (.slice ys2 ym2 yc2) ∧ W.cell? ⟨q, 5, none⟩ = some (.slice ys3 ym3 yc3) ∧ W.cell? ⟨q, 6, none⟩ = some (.slice ys4 ym4 yc4) ∧ W.cell? ⟨q, 7, none⟩ = some (.string b3) ∧ W.cell? ⟨q, 8, none⟩ = some (.int .i64 b4) ∧ W.cell? ⟨q, 9, none⟩ = some (.string b5) ∧ W.cell? ⟨q, 10, none⟩ = some (.bool b6)) (by kernel_rfl) (HS.out _ (Kept.drew _)) (fun hHeld => ?_)
        have JA := Lib.hid (Kept.drew w3)
        refine wpAnyH_take (i := 0) (v := ?_) (by rw [List.getElem?_toArray]; exact rfl) (by kernel_rfl) (by kernel_rfl) (by kernel_rfl) (by exact fun _ _ _ h => h) (Or.inl ⟨by rfl, (by intro W hSw; obtain ⟨o0, o1, o2, o3, o4, o5, o6, o7, o8, o9, o10, o11, o12, o13, o14, o15, o16, o17, o18, o19, o20, o21, o22, o23, o24, o25, o26, o27, o28, o29, o30, o31, o32, o33, o34, o35, o36, o37, o38, o39, o40, o41, o42, o43⟩ := hSw; go_simp <;> with_reducible rfl)⟩) (by assumption) ?_
        try simp only [Act.put, List.setIfInBounds_toArray, List.set_cons_zero, List.set_cons_succ]
        refine wpAnyH_take (i := 2) (v := ?_) (by rw [List.getElem?_toArray]; exact rfl) (by kernel_rfl) (by kernel_rfl) (by kernel_rfl) (by exact fun _ _ _ h => h) (Or.inl ⟨by rfl, (by intro W hSw; obtain ⟨o0, o1, o2, o3, o4, o5, o6, o7, o8, o9, o10, o11, o12, o13, o14, o15, o16, o17, o18, o19, o20, o21, o22, o23, o24, o25, o26, o27, o28, o29, o30, o31, o32, o33, o34, o35, o36, o37, o38, o39, o40, o41, o42, o43⟩ := hSw; go_simp <;> with_reducible rfl)⟩) (by assumption) ?_
        try simp only [Act.put, List.setIfInBounds_toArray, List.set_cons_zero, List.set_cons_succ]
        refine wpAnyH_ready (rs := [1]) (by kernel_rfl) (by simp) (AllReadyH.cons (by rw [List.getElem?_toArray]; exact rfl) (fun K9 hK9 => ?_) AllReadyH.nil)
        go_simp
        refine (checkPR (RA.out _ (K.out.trans (KC.out.trans JA.out))) HCK.out).mono ?_
        rintro e9 x9 ⟨rfl, kk⟩
        have JA := Lib.hid (JA.out.trans kk)
        clear kk
        refine hK9.out _ _ (HS.out _ JA.out) (fun hHeld1 => ?_)
        clear hK9 K9
        try simp only [Act.put, List.setIfInBounds_toArray, List.set_cons_zero, List.set_cons_succ]
        refine wpAnyH_take (i := 3) (v := ?_) (by rw [List.getElem?_toArray]; exact rfl) (by kernel_rfl) (by kernel_rfl) (by kernel_rfl) (by exact fun _ _ _ h => h) (Or.inl ⟨by rfl, (by intro W hSw; obtain ⟨o0, o1, o2, o3, o4, o5, o6, o7, o8, o9, o10, o11, o12, o13, o14, o15, o16, o17, o18, o19, o20, o21, o22, o23, o24, o25, o26, o27, o28, o29, o30, o31, o32, o33, o34, o35, o36, o37, o38, o39, o40, o41, o42, o43⟩ := hSw; go_simp <;> with_reducible rfl)⟩) (by assumption) ?_
        try simp only [Act.put, List.setIfInBounds_toArray, List.set_cons_zero, List.set_cons_succ]
        refine wpAnyH_take (i := 4) (v := ?_) (by rw [List.getElem?_toArray]; exact rfl) (by kernel_rfl) (by kernel_rfl) (by kernel_rfl) (by exact fun _ _ _ h => h) (Or.inl ⟨by rfl, (by intro W hSw; obtain ⟨o0, o1, o2, o3, o4, o5, o6, o7, o8, o9, o10, o11, o12, o13, o14, o15, o16, o17, o18, o19, o20, o21, o22, o23, o24, o25, o26, o27, o28, o29, o30, o31, o32, o33, o34, o35, o36, o37, o38, o39, o40, o41, o42, o43⟩ := hSw; go_simp <;> with_reducible rfl)⟩) (by assumption) ?_
        try simp only [Act.put, List.setIfInBounds_toArray, List.set_cons_zero, List.set_cons_succ]
        refine wpAnyH_take (i := 5) (v := ?_) (by rw [List.getElem?_toArray]; exact rfl) (by kernel_rfl) (by kernel_rfl) (by kernel_rfl) (by exact fun _ _ _ h => h) (Or.inl ⟨by rfl, (by intro W hSw; obtain ⟨o0, o1, o2, o3, o4, o5, o6, o7, o8, o9, o10, o11, o12, o13, o14, o15, o16, o17, o18, o19, o20, o21, o22, o23, o24, o25, o26, o27, o28, o29, o30, o31, o32, o33, o34, o35, o36, o37, o38, o39, o40, o41, o42, o43⟩ := hSw; go_simp <;> with_reducible rfl)⟩) (by assumption) ?_
        try simp only [Act.put, List.setIfInBounds_toArray, List.set_cons_zero, List.set_cons_succ]
        refine wpAnyH_take (i := 6) (v := ?_) (by rw [List.getElem?_toArray]; exact rfl) (by kernel_rfl) (by kernel_rfl) (by kernel_rfl) (by exact fun _ _ _ h => h) (Or.inl ⟨by rfl, (by intro W hSw; obtain ⟨o0, o1, o2, o3, o4, o5, o6, o7, o8, o9, o10, o11, o12, o13, o14, o15, o16, o17, o18, o19, o20, o21, o22, o23, o24, o25, o26, o27, o28, o29, o30, o31, o32, o33, o34, o35, o36, o37, o38, o39, o40, o41, o42, o43⟩ := hSw; go_simp <;> with_reducible rfl)⟩) (by assumption) ?_
        try simp only [Act.put, List.setIfInBounds_toArray, List.set_cons_zero, List.set_cons_succ]
        refine wpAnyH_take (i := 8) (v := ?_) (by rw [List.getElem?_toArray]; exact rfl) (by kernel_rfl) (by kernel_rfl) (by kernel_rfl) (by exact fun _ _ _ h => h) (Or.inl ⟨by rfl, (by intro W hSw; obtain ⟨o0, o1, o2, o3, o4, o5, o6, o7, o8, o9, o10, o11, o12, o13, o14, o15, o16, o17, o18, o19, o20, o21, o22, o23, o24, o25, o26, o27, o28, o29, o30, o31, o32, o33, o34, o35, o36, o37, o38, o39, o40, o41, o42, o43⟩ := hSw; go_simp <;> with_reducible rfl)⟩) (by assumption) ?_
        try simp only [Act.put, List.setIfInBounds_toArray, List.set_cons_zero, List.set_cons_succ]
        refine wpAnyH_take (i := 9) (v := ?_) (by rw [List.getElem?_toArray]; exact rfl) (by kernel_rfl) (by kernel_rfl) (by kernel_rfl) (by exact fun _ _ _ h => h) (Or.inl ⟨by rfl, (by intro W hSw; obtain ⟨o0, o1, o2, o3, o4, o5, o6, o7, o8, o9, o10, o11, o12, o13, o14, o15, o16, o17, o18, o19, o20, o21, o22, o23, o24, o25, o26, o27, o28, o29, o30, o31, o32, o33, o34, o35, o36, o37, o38, o39, o40, o41, o42, o43⟩ := hSw; go_simp <;> with_reducible rfl)⟩) (by assumption) ?_
        try simp only [Act.put, List.setIfInBounds_toArray, List.set_cons_zero, List.set_cons_succ]
        refine wpAnyH_ready (rs := [7]) (by kernel_rfl) (by simp) (AllReadyH.cons (by rw [List.getElem?_toArray]; exact rfl) (fun K9 hK9 => ?_) AllReadyH.nil)
        go_simp
        refine (samePodR (RA.out _ (K.out.trans (KC.out.trans JA.out))) (RB.out _ (K.out.trans (KC.out.trans JA.out))) HSM.out).mono ?_
        rintro e9 x9 ⟨rfl, kk⟩
        have JA := Lib.hid (JA.out.trans kk)
        clear kk
        refine hK9.out _ _ (HS.out _ JA.out) (fun hHeld2 => ?_)
        clear hK9 K9
        try simp only [Act.put, List.setIfInBounds_toArray, List.set_cons_zero, List.set_cons_succ]
        refine wpAnyH_ready (rs := [10]) (by kernel_rfl) (by simp) (AllReadyH.cons (by rw [List.getElem?_toArray]; exact rfl) (fun K9 hK9 => ?_) AllReadyH.nil)
        go_simp
        refine (rsamePodR (XA.out _ (KC.out.trans JA.out)) (XB.out _ (KC.out.trans JA.out)) HSM.out).mono ?_
        rintro e9 x9 ⟨rfl, kk⟩
        have JA := Lib.hid (JA.out.trans kk)
        clear kk
        refine hK9.out _ _ (HS.out _ JA.out) (fun hHeld3 => ?_)
        clear hK9 K9
        try simp only [Act.put, List.setIfInBounds_toArray, List.set_cons_zero, List.set_cons_succ]
        refine wpAnyH_take (i := 11) (v := ?_) (by rw [List.getElem?_toArray]; exact rfl) (by kernel_rfl) (by kernel_rfl) (by kernel_rfl) (by exact fun _ _ _ h => h) (Or.inl ⟨by rfl, (by intro W hSw; obtain ⟨o0, o1, o2, o3, o4, o5, o6, o7, o8, o9, o10, o11, o12, o13, o14, o15, o16, o17, o18, o19, o20, o21, o22, o23, o24, o25, o26, o27, o28, o29, o30, o31, o32, o33, o34, o35, o36, o37, o38, o39, o40, o41, o42, o43⟩ := hSw; go_simp <;> with_reducible rfl)⟩) (by assumption) ?_
        try simp only [Act.put, List.setIfInBounds_toArray, List.set_cons_zero, List.set_cons_succ]
        refine wpAnyH_take (i := 12) (v := ?_) (by rw [List.getElem?_toArray]; exact rfl) (by kernel_rfl) (by kernel_rfl) (by kernel_rfl) (by exact fun _ _ _ h => h) (Or.inl ⟨by rfl, (by intro W hSw; obtain ⟨o0, o1, o2, o3, o4, o5, o6, o7, o8, o9, o10, o11, o12, o13, o14, o15, o16, o17, o18, o19, o20, o21, o22, o23, o24, o25, o26, o27, o28, o29, o30, o31, o32, o33, o34, o35, o36, o37, o38, o39, o40, o41, o42, o43⟩ := hSw; go_simp <;> with_reducible rfl)⟩) (by assumption) ?_
        try simp only [Act.put, List.setIfInBounds_toArray, List.set_cons_zero, List.set_cons_succ]
        refine wpAnyH_take (i := 13) (v := ?_) (by rw [List.getElem?_toArray]; exact rfl) (by kernel_rfl) (by kernel_rfl) (by kernel_rfl) (by exact fun _ _ _ h => h) (Or.inl ⟨by rfl, (by intro W hSw; obtain ⟨o0, o1, o2, o3, o4, o5, o6, o7, o8, o9, o10, o11, o12, o13, o14, o15, o16, o17, o18, o19, o20, o21, o22, o23, o24, o25, o26, o27, o28, o29, o30, o31, o32, o33, o34, o35, o36, o37, o38, o39, o40, o41, o42, o43⟩ := hSw; go_simp <;> with_reducible rfl)⟩) (by assumption) ?_
        try simp only [Act.put, List.setIfInBounds_toArray, List.set_cons_zero, List.set_cons_succ]
        refine wpAnyH_take (i := 14) (v := ?_) (by rw [List.getElem?_toArray]; exact rfl) (by kernel_rfl) (by kernel_rfl) (by kernel_rfl) (by exact fun _ _ _ h => h) (Or.inl ⟨by rfl, (by intro W hSw; obtain ⟨o0, o1, o2, o3, o4, o5, o6, o7, o8, o9, o10, o11, o12, o13, o14, o15, o16, o17, o18, o19, o20, o21, o22, o23, o24, o25, o26, o27, o28, o29, o30, o31, o32, o33, o34, o35, o36, o37, o38, o39, o40, o41, o42, o43⟩ := hSw; go_simp <;> with_reducible rfl)⟩) (by assumption) ?_
        try simp only [Act.put, List.setIfInBounds_toArray, List.set_cons_zero, List.set_cons_succ]
        refine wpAnyH_take (i := 15) (v := ?_) (by rw [List.getElem?_toArray]; exact rfl) (by kernel_rfl) (by kernel_rfl) (by kernel_rfl) (by exact fun _ _ _ h => h) (Or.inl ⟨by rfl, (by intro W hSw; obtain ⟨o0, o1, o2, o3, o4, o5, o6, o7, o8, o9, o10, o11, o12, o13, o14, o15, o16, o17, o18, o19, o20, o21, o22, o23, o24, o25, o26, o27, o28, o29, o30, o31, o32, o33, o34, o35, o36, o37, o38, o39, o40, o41, o42, o43⟩ := hSw; go_simp <;> with_reducible rfl)⟩) (by assumption) ?_
        try simp only [Act.put, List.setIfInBounds_toArray, List.set_cons_zero, List.set_cons_succ]
        refine wpAnyH_take (i := 17) (v := ?_) (by rw [List.getElem?_toArray]; exact rfl) (by kernel_rfl) (by kernel_rfl) (by kernel_rfl) (by exact fun _ _ _ h => h) (Or.inl ⟨by rfl, (by intro W hSw; obtain ⟨o0, o1, o2, o3, o4, o5, o6, o7, o8, o9, o10, o11, o12, o13, o14, o15, o16, o17, o18, o19, o20, o21, o22, o23, o24, o25, o26, o27, o28, o29, o30, o31, o32, o33, o34, o35, o36, o37, o38, o39, o40, o41, o42, o43⟩ := hSw; go_simp <;> with_reducible rfl)⟩) (by assumption) ?_
        try simp only [Act.put, List.setIfInBounds_toArray, List.set_cons_zero, List.set_cons_succ]
        refine wpAnyH_take (i := 18) (v := ?_) (by rw [List.getElem?_toArray]; exact rfl) (by kernel_rfl) (by kernel_rfl) (by kernel_rfl) (by exact fun _ _ _ h => h) (Or.inl ⟨by rfl, (by intro W hSw; obtain ⟨o0, o1, o2, o3, o4, o5, o6, o7, o8, o9, o10, o11, o12, o13, o14, o15, o16, o17, o18, o19, o20, o21, o22, o23, o24, o25, o26, o27, o28, o29, o30, o31, o32, o33, o34, o35, o36, o37, o38, o39, o40, o41, o42, o43⟩ := hSw; go_simp <;> with_reducible rfl)⟩) (by assumption) ?_
        try simp only [Act.put, List.setIfInBounds_toArray, List.set_cons_zero, List.set_cons_succ]
        refine wpAnyH_ready (rs := [16]) (by kernel_rfl) (by simp) (AllReadyH.cons (by rw [List.getElem?_toArray]; exact rfl) (fun K9 hK9 => ?_) AllReadyH.nil)
        go_simp
        refine (cmpPdR (RA.out _ (K.out.trans (KC.out.trans JA.out))) (RB.out _ (K.out.trans (KC.out.trans JA.out))) HCX.out).mono ?_
        rintro e9 x9 ⟨rfl, kk⟩
        have JA := Lib.hid (JA.out.trans kk)
        clear kk
        refine hK9.out _ _ (HS.out _ JA.out) (fun hHeld4 => ?_)
        clear hK9 K9
        try simp only [Act.put, List.setIfInBounds_toArray, List.set_cons_zero, List.set_cons_succ]
        refine wpAnyH_ready (rs := [19]) (by kernel_rfl) (by simp) (AllReadyH.cons (by rw [List.getElem?_toArray]; exact rfl) (fun K9 hK9 => ?_) AllReadyH.nil)
        go_simp
        refine (rcmpPdR (XA.out _ (KC.out.trans JA.out)) (XB.out _ (KC.out.trans JA.out)) HCX.out).mono ?_
        rintro e9 x9 ⟨rfl, kk⟩
        have JA := Lib.hid (JA.out.trans kk)
        clear kk
        refine hK9.out _ _ (HS.out _ JA.out) (fun hHeld5 => ?_)
        clear hK9 K9
        try simp only [Act.put, List.setIfInBounds_toArray, List.set_cons_zero, List.set_cons_succ]
        refine wpAnyH_take (i := 20) (v := ?_) (by rw [List.getElem?_toArray]; exact rfl) (by kernel_rfl) (by kernel_rfl) (by kernel_rfl) (by exact fun _ _ _ h => h) (Or.inl ⟨by rfl, (by intro W hSw; obtain ⟨o0, o1, o2, o3, o4, o5, o6, o7, o8, o9, o10, o11, o12, o13, o14, o15, o16, o17, o18, o19, o20, o21, o22, o23, o24, o25, o26, o27, o28, o29, o30, o31, o32, o33, o34, o35, o36, o37, o38, o39, o40, o41, o42, o43⟩ := hSw; go_simp <;> with_reducible rfl)⟩) (by assumption) ?_
        try simp only [Act.put, List.setIfInBounds_toArray, List.set_cons_zero, List.set_cons_succ]
        refine wpAnyH_take (i := 21) (v := ?_) (by rw [List.getElem?_toArray]; exact rfl) (by kernel_rfl) (by kernel_rfl) (by kernel_rfl) (by exact fun _ _ _ h => h) (Or.inl ⟨by rfl, (by intro W hSw; obtain ⟨o0, o1, o2, o3, o4, o5, o6, o7, o8, o9, o10, o11, o12, o13, o14, o15, o16, o17, o18, o19, o20, o21, o22, o23, o24, o25, o26, o27, o28, o29, o30, o31, o32, o33, o34, o35, o36, o37, o38, o39, o40, o41, o42, o43⟩ := hSw; go_simp <;> with_reducible rfl)⟩) (by assumption) ?_
        try simp only [Act.put, List.setIfInBounds_toArray, List.set_cons_zero, List.set_cons_succ]
        refine wpAnyH_take (i := 22) (v := ?_) (by rw [List.getElem?_toArray]; exact rfl) (by kernel_rfl) (by kernel_rfl) (by kernel_rfl) (by exact fun _ _ _ h => h) (Or.inl ⟨by rfl, (by intro W hSw; obtain ⟨o0, o1, o2, o3, o4, o5, o6, o7, o8, o9, o10, o11, o12, o13, o14, o15, o16, o17, o18, o19, o20, o21, o22, o23, o24, o25, o26, o27, o28, o29, o30, o31, o32, o33, o34, o35, o36, o37, o38, o39, o40, o41, o42, o43⟩ := hSw; go_simp <;> with_reducible rfl)⟩) (by assumption) ?_
        try simp only [Act.put, List.setIfInBounds_toArray, List.set_cons_zero, List.set_cons_succ]
        refine wpAnyH_take (i := 23) (v := ?_) (by rw [List.getElem?_toArray]; exact rfl) (by kernel_rfl) (by kernel_rfl) (by kernel_rfl) (by exact fun _ _ _ h => h) (Or.inl ⟨by rfl, (by intro W hSw; obtain ⟨o0, o1, o2, o3, o4, o5, o6, o7, o8, o9, o10, o11, o12, o13, o14, o15, o16, o17, o18, o19, o20, o21, o22, o23, o24, o25, o26, o27, o28, o29, o30, o31, o32, o33, o34, o35, o36, o37, o38, o39, o40, o41, o42, o43⟩ := hSw; go_simp <;> with_reducible rfl)⟩) (by assumption) ?_
        try simp only [Act.put, List.setIfInBounds_toArray, List.set_cons_zero, List.set_cons_succ]
        refine wpAnyH_take (i := 24) (v := ?_) (by rw [List.getElem?_toArray]; exact rfl) (by kernel_rfl) (by kernel_rfl) (by kernel_rfl) (by exact fun _ _ _ h => h) (Or.inl ⟨by rfl, (by intro W hSw; obtain ⟨o0, o1, o2, o3, o4, o5, o6, o7, o8, o9, o10, o11, o12, o13, o14, o15, o16, o17, o18, o19, o20, o21, o22, o23, o24, o25, o26, o27, o28, o29, o30, o31, o32, o33, o34, o35, o36, o37, o38, o39, o40, o41, o42, o43⟩ := hSw; go_simp <;> with_reducible rfl)⟩) (by assumption) ?_
        try simp only [Act.put, List.setIfInBounds_toArray, List.set_cons_zero, List.set_cons_succ]
        refine wpAnyH_take (i := 26) (v := ?_) (by rw [List.getElem?_toArray]; exact rfl) (by kernel_rfl) (by kernel_rfl) (by kernel_rfl) (by exact fun _ _ _ h => h) (Or.inl ⟨by rfl, (by intro W hSw; obtain ⟨o0, o1, o2, o3, o4, o5, o6, o7, o8, o9, o10, o11, o12, o13, o14, o15, o16, o17, o18, o19, o20, o21, o22, o23, o24, o25, o26, o27, o28, o29, o30, o31, o32, o33, o34, o35, o36, o37, o38, o39, o40, o41, o42, o43⟩ := hSw; go_simp <;> with_reducible rfl)⟩) (by assumption) ?_
        try simp only [Act.put, List.setIfInBounds_toArray, List.set_cons_zero, List.set_cons_succ]
        refine wpAnyH_take (i := 27) (v := ?_) (by rw [List.getElem?_toArray]; exact rfl) (by kernel_rfl) (by kernel_rfl) (by kernel_rfl) (by exact fun _ _ _ h => h) (Or.inl ⟨by rfl, (by intro W hSw; obtain ⟨o0, o1, o2, o3, o4, o5, o6, o7, o8, o9, o10, o11, o12, o13, o14, o15, o16, o17, o18, o19, o20, o21, o22, o23, o24, o25, o26, o27, o28, o29, o30, o31, o32, o33, o34, o35, o36, o37, o38, o39, o40, o41, o42, o43⟩ := hSw; go_simp <;> with_reducible rfl)⟩) (by assumption) ?_
        try simp only [Act.put, List.setIfInBounds_toArray, List.set_cons_zero, List.set_cons_succ]
        refine wpAnyH_ready (rs := [25]) (by kernel_rfl) (by simp) (AllReadyH.cons (by rw [List.getElem?_toArray]; exact rfl) (fun K9 hK9 => ?_) AllReadyH.nil)
        go_simp
        refine (cmpPdR (RB.out _ (K.out.trans (KC.out.trans JA.out))) (RA.out _ (K.out.trans (KC.out.trans JA.out))) HCU.out).mono ?_
        rintro e9 x9 ⟨rfl, kk⟩
        have JA := Lib.hid (JA.out.trans kk)
        clear kk
        refine hK9.out _ _ (HS.out _ JA.out) (fun hHeld6 => ?_)
        clear hK9 K9
        try simp only [Act.put, List.setIfInBounds_toArray, List.set_cons_zero, List.set_cons_succ]
        refine wpAnyH_ready (rs := [28]) (by kernel_rfl) (by simp) (AllReadyH.cons (by rw [List.getElem?_toArray]; exact rfl) (fun K9 hK9 => ?_) AllReadyH.nil)
        go_simp
        refine (rcmpPdR (XA.out _ (KC.out.trans JA.out)) (XB.out _ (KC.out.trans JA.out)) HCX.out).mono ?_
        rintro e9 x9 ⟨rfl, kk⟩
        have JA := Lib.hid (JA.out.trans kk)
        clear kk
        refine hK9.out _ _ (HS.out _ JA.out) (fun hHeld7 => ?_)
        clear hK9 K9
        try simp only [Act.put, List.setIfInBounds_toArray, List.set_cons_zero, List.set_cons_succ]
        refine wpAnyH_take (i := 29) (v := ?_) (by rw [List.getElem?_toArray]; exact rfl) (by kernel_rfl) (by kernel_rfl) (by kernel_rfl) (by exact fun _ _ _ h => h) (Or.inl ⟨by rfl, (by intro W hSw; obtain ⟨o0, o1, o2, o3, o4, o5, o6, o7, o8, o9, o10, o11, o12, o13, o14, o15, o16, o17, o18, o19, o20, o21, o22, o23, o24, o25, o26, o27, o28, o29, o30, o31, o32, o33, o34, o35, o36, o37, o38, o39, o40, o41, o42, o43⟩ := hSw; go_simp <;> with_reducible rfl)⟩) (by assumption) ?_
        try simp only [Act.put, List.setIfInBounds_toArray, List.set_cons_zero, List.set_cons_succ]
        refine wpAnyH_take (i := 30) (v := ?_) (by rw [List.getElem?_toArray]; exact rfl) (by kernel_rfl) (by kernel_rfl) (by kernel_rfl) (by exact fun _ _ _ h => h) (Or.inl ⟨by rfl, (by intro W hSw; obtain ⟨o0, o1, o2, o3, o4, o5, o6, o7, o8, o9, o10, o11, o12, o13, o14, o15, o16, o17, o18, o19, o20, o21, o22, o23, o24, o25, o26, o27, o28, o29, o30, o31, o32, o33, o34, o35, o36, o37, o38, o39, o40, o41, o42, o43⟩ := hSw; go_simp <;> with_reducible rfl)⟩) (by assumption) ?_
        try simp only [Act.put, List.setIfInBounds_toArray, List.set_cons_zero, List.set_cons_succ]
        refine wpAnyH_take (i := 31) (v := ?_) (by rw [List.getElem?_toArray]; exact rfl) (by kernel_rfl) (by kernel_rfl) (by kernel_rfl) (by exact fun _ _ _ h => h) (Or.inl ⟨by rfl, (by intro W hSw; obtain ⟨o0, o1, o2, o3, o4, o5, o6, o7, o8, o9, o10, o11, o12, o13, o14, o15, o16, o17, o18, o19, o20, o21, o22, o23, o24, o25, o26, o27, o28, o29, o30, o31, o32, o33, o34, o35, o36, o37, o38, o39, o40, o41, o42, o43⟩ := hSw; go_simp <;> with_reducible rfl)⟩) (by assumption) ?_
        try simp only [Act.put, List.setIfInBounds_toArray, List.set_cons_zero, List.set_cons_succ]
        refine wpAnyH_done (by kernel_rfl) ?_ _
        obtain ⟨w6, hw6⟩ : ∃ W, W = x9 := ⟨x9, rfl⟩
        subst hw6
        by_cases z : ck = 0
        · subst z
          have HTL := Lib.hid (textPd_says HCK.out HFV.out)
          have KX := Lib.hid (KC.out.trans JA.out)
          obtain ⟨o0, o1, o2, o3, o4, o5, o6, o7, o8, o9, o10, o11, o12, o13, o14, o15, o16, o17, o18, o19, o20, o21, o22, o23, o24, o25, o26, o27, o28, o29, o30, o31, o32, o33, o34, o35, o36, o37, o38, o39, o40, o41, o42, o43⟩ := HS.out _ JA.out
          have HTX := Lib.hid (fun W (k : Kept w6 W) => textPdR (HE.out.kept (K.out.trans (KX.out.trans k))).toEnvT (RA.out W (K.out.trans (KX.out.trans k))) FA.out rfl)
          have HRX := Lib.hid (fun W (k : Kept w6 W) => rtextPdR (XA.out W (KX.out.trans k)) FA.out (pod_ops HCK.out) rfl)
          have HTS := Lib.hid (textPd_size FA.out HFV.out HPR.out HMO.out)
          obtain ⟨t, ht⟩ : ∃ t, textPd ⟨a0, a1, a2, la1, la2, la3, la4, a3, a4, a5, a6⟩ = t := ⟨_, rfl⟩
          rw [ht] at HTX HRX HTL HTS
          obtain ⟨s, rfl⟩ : ∃ s, t = bytes s := ⟨_, (bytes_data t).symm⟩
          rw [show (bytes s).data.toList = s by simp [bytes]] at HTL
          rw [bytes_size] at HTS
          have hbb : ((bytes s).toList == (bytes s).toList) = true := beq_self_eq_true _
          clear ht
          go_wp2_with fail
          refine (HTX.out _ (Kept.refl _)).mono ?_
          rintro e w7 ⟨rfl, k⟩
          have L1 := Lib.hid k
          clear k
          go_wp2_with fail
          refine (parse_pk (HE.out.kept (K.out.trans (KX.out.trans L1.out))) HTS.out HTL.out HCK.out).mono ?_
          rintro e w8 ⟨zs1, zm1, zc1, zs2, zm2, zc2, zs3, zm3, zc3, zs4, zm4, zc4, rfl, hn, k⟩
          have L2 := Lib.hid (L1.out.trans k)
          have RN := Lib.hid hn
          clear k hn o0 o1 o2 o3 o4 o5 o6 o7 o8 o9 o10 o11 o12 o13 o14 o15 o16 o17 o18 o19 o20 o21 o22 o23 o24 o25 o26 o27 o28 o29 o30 o31 o32 o33 o34 o35 o36 o37 o38 o39 o40 o41 o42 o43
          go_wp2
          obtain ⟨W9, hW9⟩ : ∃ W, w8.alloc (.cells #[.string a0, .string a1, .int .i64 a2, .slice zs1 zm1 zc1, .slice zs2 zm2 zc2, .slice zs3 zm3 zc3, .slice zs4 zm4 zc4, .string a3, .int .i64 a4, .string a5, .bool a6] 30) = W := ⟨_, rfl⟩
          have k9 : Kept w8 W9 := by rw [← hW9]; exact kept_alloc _ _
          have L3 := Lib.hid (L2.out.trans k9)
          have RN := Lib.hid (fun W (k : Kept W9 W) => show PodR W (.agg #[.string a0, .string a1, .int .i64 a2, .slice zs1 zm1 zc1, .slice zs2 zm2 zc2, .slice zs3 zm3 zc3, .slice zs4 zm4 zc4, .string a3, .int .i64 a4, .string a5, .bool a6]) ⟨a0, a1, a2, la1, la2, la3, la4, a3, a4, a5, a6⟩ from ⟨_, _, _, _, rfl, RN.out.kept (k9.trans k)⟩)
          have HR9 := Lib.hid (fun W (k : Kept W9 W) => freshN w8 (.string a0) [.string a1, .int .i64 a2, .slice zs1 zm1 zc1, .slice zs2 zm2 zc2, .slice zs3 zm3 zc3, .slice zs4 zm4 zc4, .string a3, .int .i64 a4, .string a5, .bool a6] 30 W (by rw [hW9]; exact k))
          obtain ⟨r, hr⟩ : ∃ r, w8.heap.size = r := ⟨_, rfl⟩
          rw [hr] at HR9
          try rw [hW9]
          try rw [hr]
          clear hW9 hr k9
          have HS2 := Lib.hid (show ∀ W, Kept W9 W → W.cell? ⟨w.heap.size, 0, none⟩ = some (.string a0) ∧ W.cell? ⟨w.heap.size, 1, none⟩ = some (.string a1) ∧ W.cell? ⟨w.heap.size, 2, none⟩ = some (.int .i64 a2) ∧ W.cell? ⟨w.heap.size, 3, none⟩ = some (va1) ∧ W.cell? ⟨w.heap.size, 4, none⟩ = some (va2) ∧ W.cell? ⟨w.heap.size, 5, none⟩ = some (va3) ∧ W.cell? ⟨w.heap.size, 6, none⟩ = some (va4) ∧ W.cell? ⟨w.heap.size, 7, none⟩ = some (.string a3) ∧ W.cell? ⟨w.heap.size, 8, none⟩ = some (.int .i64 a4) ∧ W.cell? ⟨w.heap.size, 9, none⟩ = some (.string a5) ∧ W.cell? ⟨w.heap.size, 10, none⟩ = some (.bool a6) ∧ W.cell? ⟨p, 0, none⟩ = some (.string a0) ∧ W.cell? ⟨p, 1, none⟩ = some (.string a1) ∧ W.cell? ⟨p, 2, none⟩ = some (.int .i64 a2) ∧ W.cell? ⟨p, 3, none⟩ = some (.slice xs1 xm1 xc1) ∧ W.cell? ⟨p, 4, none⟩ = some (.slice xs2 xm2 xc2) ∧ W.cell? ⟨p, 5, none⟩ = some (.slice xs3 xm3 xc3) ∧ W.cell? ⟨p, 6, none⟩ = some (.slice xs4 xm4 xc4) ∧ W.cell? ⟨p, 7, none⟩ = some (.string a3) ∧ W.cell? ⟨p, 8, none⟩ = some (.int .i64 a4) ∧ W.cell? ⟨p, 9, none⟩ = some (.string a5) ∧ W.cell? ⟨p, 10, none⟩ = some (.bool a6) ∧ W.cell? ⟨r, 0, none⟩ = some (.string a0) ∧ W.cell? ⟨r, 1, none⟩ = some (.string a1) ∧ W.cell? ⟨r, 2, none⟩ = some (.int .i64 a2) ∧ W.cell? ⟨r, 3, none⟩ = some (.slice zs1 zm1 zc1) ∧ W.cell? ⟨r, 4, none⟩ = some (.slice zs2 zm2 zc2) ∧ W.cell? ⟨r, 5, none⟩ = some (.slice zs3 zm3 zc3) ∧ W.cell? ⟨r, 6, none⟩ = some (.slice zs4 zm4 zc4) ∧ W.cell? ⟨r, 7, none⟩ = some (.string a3) ∧ W.cell? ⟨r, 8, none⟩ = some (.int .i64 a4) ∧ W.cell? ⟨r, 9, none⟩ = some (.string a5) ∧ W.cell? ⟨r, 10, none⟩ = some (.bool a6) from fun W k => by
            obtain ⟨q0, q1, q2, q3, q4, q5, q6, q7, q8, q9, q10, q11, q12, q13, q14, q15, q16, q17, q18, q19, q20, q21⟩ := HC0.out W (K.out.trans (KX.out.trans (L3.out.trans k)))
            have hp := HP.out W (KX.out.trans (L3.out.trans k))
            have hr := HR9.out W k
            exact ⟨q0, q1, q2, q3, q4, q5, q6, q7, q8, q9, q10, (hp).at_ 0 _ rfl, (hp).at_ 1 _ rfl, (hp).at_ 2 _ rfl, (hp).at_ 3 _ rfl, (hp).at_ 4 _ rfl, (hp).at_ 5 _ rfl, (hp).at_ 6 _ rfl, (hp).at_ 7 _ rfl, (hp).at_ 8 _ rfl, (hp).at_ 9 _ rfl, (hp).at_ 10 _ rfl, (hr).at_ 0 _ rfl, (hr).at_ 1 _ rfl, (hr).at_ 2 _ rfl, (hr).at_ 3 _ rfl, (hr).at_ 4 _ rfl, (hr).at_ 5 _ rfl, (hr).at_ 6 _ rfl, (hr).at_ 7 _ rfl, (hr).at_ 8 _ rfl, (hr).at_ 9 _ rfl, (hr).at_ 10 _ rfl⟩)
          refine wp_region_held_drew (S := fun W => W.cell? ⟨w.heap.size, 0, none⟩ = some (.string a0) ∧ W.cell? ⟨w.heap.size, 1, none⟩ = some (.string a1) ∧ W.cell? ⟨w.heap.size, 2, none⟩ = some (.int .i64 a2) ∧ W.cell? ⟨w.heap.size, 3, none⟩ = some (va1) ∧ W.cell? ⟨w.heap.size, 4, none⟩ = some (va2) ∧ W.cell? ⟨w.heap.size, 5, none⟩ = some (va3) ∧ W.cell? ⟨w.heap.size, 6, none⟩ = some (va4) ∧ W.cell? ⟨w.heap.size, 7, none⟩ = some (.string a3) ∧ W.cell? ⟨w.heap.size, 8, none⟩ = some (.int .i64 a4) ∧ W.cell? ⟨w.heap.size, 9, none⟩ = some (.string a5) ∧ W.cell? ⟨w.heap.size, 10, none⟩ = some (.bool a6) ∧ W.cell? ⟨p, 0, none⟩ = some (.string a0) ∧ W.cell? ⟨p, 1, none⟩ = some (.string a1) ∧ W.cell? ⟨p, 2, none⟩ = some (.int .i64 a2) ∧ W.cell? ⟨p, 3, none⟩ = some (.slice xs1 xm1 xc1) ∧ W.cell? ⟨p, 4, none⟩ = some (.slice xs2 xm2 xc2) ∧ W.cell? ⟨p, 5, none⟩ = some (.slice xs3 xm3 xc3) ∧ W.cell? ⟨p, 6, none⟩ = some (.slice xs4 xm4 xc4) ∧ W.cell? ⟨p, 7, none⟩ = some (.string a3) ∧ W.cell? ⟨p, 8, none⟩ = some (.int .i64 a4) ∧ W.cell? ⟨p, 9, none⟩ = some (.string a5) ∧ W.cell? ⟨p, 10, none⟩ = some (.bool a6) ∧ W.cell? ⟨r, 0, none⟩ = some (.string a0) ∧ W.cell? ⟨r, 1, none⟩ = some (.string a1) ∧ W.cell? ⟨r, 2, none⟩ = some (.int .i64 a2) ∧ W.cell? ⟨r, 3, none⟩ = some (.slice zs1 zm1 zc1) ∧ W.cell? ⟨r, 4, none⟩ = some (.slice zs2 zm2 zc2) ∧ W.cell? ⟨r, 5, none⟩ = some (.slice zs3 zm3 zc3) ∧ W.cell? ⟨r, 6, none⟩ = some (.slice zs4 zm4 zc4) ∧ W.cell? ⟨r, 7, none⟩ = some (.string a3) ∧ W.cell? ⟨r, 8, none⟩ = some (.int .i64 a4) ∧ W.cell? ⟨r, 9, none⟩ = some (.string a5) ∧ W.cell? ⟨r, 10, none⟩ = some (.bool a6)) (by kernel_rfl) (HS2.out _ (Kept.drew _)) (fun hHeld => ?_)
          have JB := Lib.hid (Kept.drew W9)
          refine wpAnyH_take (i := 0) (v := ?_) (by rw [List.getElem?_toArray]; exact rfl) (by kernel_rfl) (by kernel_rfl) (by kernel_rfl) (by exact fun _ _ _ h => h) (Or.inl ⟨by rfl, (by intro W hSw; obtain ⟨o0, o1, o2, o3, o4, o5, o6, o7, o8, o9, o10, o11, o12, o13, o14, o15, o16, o17, o18, o19, o20, o21, o22, o23, o24, o25, o26, o27, o28, o29, o30, o31, o32⟩ := hSw; go_simp <;> with_reducible rfl)⟩) (by assumption) ?_
          try simp only [Act.put, List.setIfInBounds_toArray, List.set_cons_zero, List.set_cons_succ]
          refine wpAnyH_take (i := 2) (v := ?_) (by rw [List.getElem?_toArray]; exact rfl) (by kernel_rfl) (by kernel_rfl) (by kernel_rfl) (by exact fun _ _ _ h => h) (Or.inl ⟨by rfl, (by intro W hSw; obtain ⟨o0, o1, o2, o3, o4, o5, o6, o7, o8, o9, o10, o11, o12, o13, o14, o15, o16, o17, o18, o19, o20, o21, o22, o23, o24, o25, o26, o27, o28, o29, o30, o31, o32⟩ := hSw; go_simp <;> with_reducible rfl)⟩) (by assumption) ?_
          try simp only [Act.put, List.setIfInBounds_toArray, List.set_cons_zero, List.set_cons_succ]
          refine wpAnyH_ready (rs := [1]) (by kernel_rfl) (by simp) (AllReadyH.cons (by rw [List.getElem?_toArray]; exact rfl) (fun K9 hK9 => ?_) AllReadyH.nil)
          go_simp
          refine (HTX.out _ (L3.out.trans JB.out)).mono ?_
          rintro e9 x9 ⟨rfl, kk⟩
          have JB := Lib.hid (JB.out.trans kk)
          clear kk
          refine hK9.out _ _ (HS2.out _ JB.out) (fun hHeld1 => ?_)
          clear hK9 K9
          try simp only [Act.put, List.setIfInBounds_toArray, List.set_cons_zero, List.set_cons_succ]
          refine wpAnyH_ready (rs := [3]) (by kernel_rfl) (by simp) (AllReadyH.cons (by rw [List.getElem?_toArray]; exact rfl) (fun K9 hK9 => ?_) AllReadyH.nil)
          go_simp
          refine (HRX.out _ (L3.out.trans JB.out)).mono ?_
          rintro e9 x9 ⟨rfl, kk⟩
          have JB := Lib.hid (JB.out.trans kk)
          clear kk
          refine hK9.out _ _ (HS2.out _ JB.out) (fun hHeld2 => ?_)
          clear hK9 K9
          try simp only [Act.put, List.setIfInBounds_toArray, List.set_cons_zero, List.set_cons_succ]
          refine wpAnyH_take (i := 4) (v := ?_) (by rw [List.getElem?_toArray]; exact rfl) (by kernel_rfl) (by kernel_rfl) (by kernel_rfl) (by exact fun _ _ _ h => h) (Or.inl ⟨by rfl, (by intro W hSw; obtain ⟨o0, o1, o2, o3, o4, o5, o6, o7, o8, o9, o10, o11, o12, o13, o14, o15, o16, o17, o18, o19, o20, o21, o22, o23, o24, o25, o26, o27, o28, o29, o30, o31, o32⟩ := hSw; go_simp <;> with_reducible rfl)⟩) (by assumption) ?_
          try simp only [Act.put, List.setIfInBounds_toArray, List.set_cons_zero, List.set_cons_succ]
          refine wpAnyH_take (i := 5) (v := ?_) (by rw [List.getElem?_toArray]; exact rfl) (by kernel_rfl) (by kernel_rfl) (by kernel_rfl) (by exact fun _ _ _ h => h) (Or.inl ⟨by rfl, (by intro W hSw; obtain ⟨o0, o1, o2, o3, o4, o5, o6, o7, o8, o9, o10, o11, o12, o13, o14, o15, o16, o17, o18, o19, o20, o21, o22, o23, o24, o25, o26, o27, o28, o29, o30, o31, o32⟩ := hSw; go_simp <;> with_reducible rfl)⟩) (by assumption) ?_
          try simp only [Act.put, List.setIfInBounds_toArray, List.set_cons_zero, List.set_cons_succ]
          refine wpAnyH_take (i := 6) (v := ?_) (by rw [List.getElem?_toArray]; exact rfl) (by kernel_rfl) (by kernel_rfl) (by kernel_rfl) (by exact fun _ _ _ h => h) (Or.inl ⟨by rfl, (by intro W hSw; obtain ⟨o0, o1, o2, o3, o4, o5, o6, o7, o8, o9, o10, o11, o12, o13, o14, o15, o16, o17, o18, o19, o20, o21, o22, o23, o24, o25, o26, o27, o28, o29, o30, o31, o32⟩ := hSw; go_simp <;> with_reducible rfl)⟩) (by assumption) ?_
          try simp only [Act.put, List.setIfInBounds_toArray, List.set_cons_zero, List.set_cons_succ]
          refine wpAnyH_take (i := 7) (v := ?_) (by rw [List.getElem?_toArray]; exact rfl) (by kernel_rfl) (by kernel_rfl) (by kernel_rfl) (by exact fun _ _ _ h => h) (Or.inl ⟨by rfl, (by intro W hSw; obtain ⟨o0, o1, o2, o3, o4, o5, o6, o7, o8, o9, o10, o11, o12, o13, o14, o15, o16, o17, o18, o19, o20, o21, o22, o23, o24, o25, o26, o27, o28, o29, o30, o31, o32⟩ := hSw; go_simp <;> with_reducible rfl)⟩) (by assumption) ?_
          try simp only [Act.put, List.setIfInBounds_toArray, List.set_cons_zero, List.set_cons_succ]
          refine wpAnyH_take (i := 8) (v := ?_) (by rw [List.getElem?_toArray]; exact rfl) (by kernel_rfl) (by kernel_rfl) (by kernel_rfl) (by exact fun _ _ _ h => h) (Or.inl ⟨by rfl, (by intro W hSw; obtain ⟨o0, o1, o2, o3, o4, o5, o6, o7, o8, o9, o10, o11, o12, o13, o14, o15, o16, o17, o18, o19, o20, o21, o22, o23, o24, o25, o26, o27, o28, o29, o30, o31, o32⟩ := hSw; go_simp <;> with_reducible rfl)⟩) (by assumption) ?_
          try simp only [Act.put, List.setIfInBounds_toArray, List.set_cons_zero, List.set_cons_succ]
          refine wpAnyH_take (i := 9) (v := ?_) (by rw [List.getElem?_toArray]; exact rfl) (by kernel_rfl) (by kernel_rfl) (by kernel_rfl) (by exact fun _ _ _ h => h) (Or.inl ⟨by rfl, (by intro W hSw; obtain ⟨o0, o1, o2, o3, o4, o5, o6, o7, o8, o9, o10, o11, o12, o13, o14, o15, o16, o17, o18, o19, o20, o21, o22, o23, o24, o25, o26, o27, o28, o29, o30, o31, o32⟩ := hSw; go_simp <;> with_reducible rfl)⟩) (by assumption) ?_
          try simp only [Act.put, List.setIfInBounds_toArray, List.set_cons_zero, List.set_cons_succ]
          refine wpAnyH_take (i := 10) (v := ?_) (by rw [List.getElem?_toArray]; exact rfl) (by kernel_rfl) (by kernel_rfl) (by kernel_rfl) (by exact fun _ _ _ h => h) (Or.inl ⟨by rfl, (by intro W hSw; obtain ⟨o0, o1, o2, o3, o4, o5, o6, o7, o8, o9, o10, o11, o12, o13, o14, o15, o16, o17, o18, o19, o20, o21, o22, o23, o24, o25, o26, o27, o28, o29, o30, o31, o32⟩ := hSw; go_simp <;> with_reducible rfl)⟩) (by assumption) ?_
          try simp only [Act.put, List.setIfInBounds_toArray, List.set_cons_zero, List.set_cons_succ]
          refine wpAnyH_take (i := 11) (v := ?_) (by rw [List.getElem?_toArray]; exact rfl) (by kernel_rfl) (by kernel_rfl) (by kernel_rfl) (by exact fun _ _ _ h => h) (Or.inl ⟨by rfl, (by intro W hSw; obtain ⟨o0, o1, o2, o3, o4, o5, o6, o7, o8, o9, o10, o11, o12, o13, o14, o15, o16, o17, o18, o19, o20, o21, o22, o23, o24, o25, o26, o27, o28, o29, o30, o31, o32⟩ := hSw; go_simp <;> with_reducible rfl)⟩) (by assumption) ?_
          try simp only [Act.put, List.setIfInBounds_toArray, List.set_cons_zero, List.set_cons_succ]
          refine wpAnyH_ready (rs := [12]) (by kernel_rfl) (by simp) (AllReadyH.cons (by rw [List.getElem?_toArray]; exact rfl) (fun K9 hK9 => ?_) AllReadyH.nil)
          go_simp
          refine (samePodR (RN.out _ JB.out) (RA.out _ (K.out.trans (KX.out.trans (L3.out.trans JB.out)))) (samePd_self ⟨a0, a1, a2, la1, la2, la3, la4, a3, a4, a5, a6⟩)).mono ?_
          rintro e9 x9 ⟨rfl, kk⟩
          have JB := Lib.hid (JB.out.trans kk)
          clear kk
          refine hK9.out _ _ (HS2.out _ JB.out) (fun hHeld3 => ?_)
          clear hK9 K9
          try simp only [Act.put, List.setIfInBounds_toArray, List.set_cons_zero, List.set_cons_succ]
          refine wpAnyH_take (i := 13) (v := ?_) (by rw [List.getElem?_toArray]; exact rfl) (by kernel_rfl) (by kernel_rfl) (by kernel_rfl) (by exact fun _ _ _ h => h) (Or.inl ⟨by rfl, (by intro W hSw; obtain ⟨o0, o1, o2, o3, o4, o5, o6, o7, o8, o9, o10, o11, o12, o13, o14, o15, o16, o17, o18, o19, o20, o21, o22, o23, o24, o25, o26, o27, o28, o29, o30, o31, o32⟩ := hSw; go_simp <;> with_reducible rfl)⟩) (by assumption) ?_
          try simp only [Act.put, List.setIfInBounds_toArray, List.set_cons_zero, List.set_cons_succ]
          refine wpAnyH_take (i := 14) (v := ?_) (by rw [List.getElem?_toArray]; exact rfl) (by kernel_rfl) (by kernel_rfl) (by kernel_rfl) (by exact fun _ _ _ h => h) (Or.inl ⟨by rfl, (by intro W hSw; obtain ⟨o0, o1, o2, o3, o4, o5, o6, o7, o8, o9, o10, o11, o12, o13, o14, o15, o16, o17, o18, o19, o20, o21, o22, o23, o24, o25, o26, o27, o28, o29, o30, o31, o32⟩ := hSw; go_simp <;> with_reducible rfl)⟩) (by assumption) ?_
          try simp only [Act.put, List.setIfInBounds_toArray, List.set_cons_zero, List.set_cons_succ]
          refine wpAnyH_done (by kernel_rfl) ?_ _
          go_wp2
          go_ret
          exact ⟨rfl, HK0.out.trans (K.out.trans (KX.out.trans (L3.out.trans JB.out)))⟩
        · have z' : (ck != 0) = true := by simpa using z
          clear z
          go_wp2
          go_ret
          exact ⟨rfl, HK0.out.trans (K.out.trans (KC.out.trans JA.out))⟩

end Go.Proofs.YtflllkpnkcmegaaGreatDoor
