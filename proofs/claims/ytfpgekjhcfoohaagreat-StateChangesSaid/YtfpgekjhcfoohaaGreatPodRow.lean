/- What a law of pods is told: its arguments; its world. -/
import Derived.Test.YtfpgekjhcfoohaaGreatPodWords
import Derived.Test.YtfpgekjhcfoohaaGreatNodRow
import Derived.Test.YtfpgekjhcfoohaaGreatResC
set_option linter.unusedVariables false
namespace Go.Proofs.YtfpgekjhcfoohaaGreat
open Go.ChangeShapes Go.WideShapes Go.ChangeAt Go.RowKit Go.Deep
theorem cellsTL : Tryz.prog.cellsOf 46 = 1 := by kernel_rfl
theorem cellsO1 : Tryz.prog.cellsOf 47 = 1 := by kernel_rfl
theorem cellsPd : Tryz.prog.cellsOf 49 = 11 := by kernel_rfl
set_option maxRecDepth 100000 in
set_option maxHeartbeats 1600000 in
theorem pod_of_trod {H : Type} {enc : TypeId × Value → H} {w : World} {base fuel : Nat} {sp : Nat → Bool} {held : Bool} {cs : List Value} {x : DataW H × List MemPlace} (h : DataW.trod enc Tryz.prog w base sp held fuel 49 cs = some x) :
 ∃ (n : Pd) (v1 v2 v3 v4 : Value), cs = [.string n.name, .string n.owner, .int .i64 n.prio, v1, v2, v3, v4, .string n.key, .int .i64 n.most, .string n.node, .bool n.hold] ∧ PodAt w v1 v2 v3 v4 n := by
 obtain ⟨ys, m, -, -, hlen, hyl, hf⟩ := DataW.trod_struct Tryz.underlying49 h
 rw [cellsPd] at hlen
 match cs, hlen with
 | [c0, c1, c2, c3, c4, c5, c6, c7, c8, c9, c10], _ =>
  have h0 : DataW.trod enc Tryz.prog w base sp held m 9 (([c0, c1, c2, c3, c4, c5, c6, c7, c8, c9, c10].drop 0).take (Tryz.prog.cellsOf 9)) = ys[0]? := hf 0 _ rfl
  have h1 : DataW.trod enc Tryz.prog w base sp held m 9 (([c0, c1, c2, c3, c4, c5, c6, c7, c8, c9, c10].drop 1).take (Tryz.prog.cellsOf 9)) = ys[1]? := hf 1 _ rfl
  have h2 : DataW.trod enc Tryz.prog w base sp held m 3 (([c0, c1, c2, c3, c4, c5, c6, c7, c8, c9, c10].drop 2).take (Tryz.prog.cellsOf 3)) = ys[2]? := hf 2 _ rfl
  have h3 : DataW.trod enc Tryz.prog w base sp held m 38 (([c0, c1, c2, c3, c4, c5, c6, c7, c8, c9, c10].drop 3).take (Tryz.prog.cellsOf 38)) = ys[3]? := hf 3 _ rfl
  have h4 : DataW.trod enc Tryz.prog w base sp held m 40 (([c0, c1, c2, c3, c4, c5, c6, c7, c8, c9, c10].drop 4).take (Tryz.prog.cellsOf 40)) = ys[4]? := hf 4 _ rfl
  have h5 : DataW.trod enc Tryz.prog w base sp held m 46 (([c0, c1, c2, c3, c4, c5, c6, c7, c8, c9, c10].drop 5).take (Tryz.prog.cellsOf 46)) = ys[5]? := hf 5 _ rfl
  have h6 : DataW.trod enc Tryz.prog w base sp held m 47 (([c0, c1, c2, c3, c4, c5, c6, c7, c8, c9, c10].drop 6).take (Tryz.prog.cellsOf 47)) = ys[6]? := hf 6 _ rfl
  have h7 : DataW.trod enc Tryz.prog w base sp held m 9 (([c0, c1, c2, c3, c4, c5, c6, c7, c8, c9, c10].drop 7).take (Tryz.prog.cellsOf 9)) = ys[7]? := hf 7 _ rfl
  have h8 : DataW.trod enc Tryz.prog w base sp held m 3 (([c0, c1, c2, c3, c4, c5, c6, c7, c8, c9, c10].drop 8).take (Tryz.prog.cellsOf 3)) = ys[8]? := hf 8 _ rfl
  have h9 : DataW.trod enc Tryz.prog w base sp held m 9 (([c0, c1, c2, c3, c4, c5, c6, c7, c8, c9, c10].drop 9).take (Tryz.prog.cellsOf 9)) = ys[9]? := hf 9 _ rfl
  have h10 : DataW.trod enc Tryz.prog w base sp held m 4 (([c0, c1, c2, c3, c4, c5, c6, c7, c8, c9, c10].drop 10).take (Tryz.prog.cellsOf 4)) = ys[10]? := hf 10 _ rfl
  rw [cellsS] at h0
  rw [cellsS] at h1
  rw [cellsI] at h2
  rw [cellsV] at h3
  rw [cellsL] at h4
  rw [cellsTL] at h5
  rw [cellsO1] at h6
  rw [cellsS] at h7
  rw [cellsI] at h8
  rw [cellsS] at h9
  rw [cellsB] at h10
  obtain ⟨y0, e0⟩ : ∃ y, ys[0]? = some y := ⟨_, List.getElem?_eq_getElem (by rw [hyl]; decide)⟩
  rw [e0] at h0
  obtain ⟨y1, e1⟩ : ∃ y, ys[1]? = some y := ⟨_, List.getElem?_eq_getElem (by rw [hyl]; decide)⟩
  rw [e1] at h1
  obtain ⟨y2, e2⟩ : ∃ y, ys[2]? = some y := ⟨_, List.getElem?_eq_getElem (by rw [hyl]; decide)⟩
  rw [e2] at h2
  obtain ⟨y3, e3⟩ : ∃ y, ys[3]? = some y := ⟨_, List.getElem?_eq_getElem (by rw [hyl]; decide)⟩
  rw [e3] at h3
  obtain ⟨y4, e4⟩ : ∃ y, ys[4]? = some y := ⟨_, List.getElem?_eq_getElem (by rw [hyl]; decide)⟩
  rw [e4] at h4
  obtain ⟨y5, e5⟩ : ∃ y, ys[5]? = some y := ⟨_, List.getElem?_eq_getElem (by rw [hyl]; decide)⟩
  rw [e5] at h5
  obtain ⟨y6, e6⟩ : ∃ y, ys[6]? = some y := ⟨_, List.getElem?_eq_getElem (by rw [hyl]; decide)⟩
  rw [e6] at h6
  obtain ⟨y7, e7⟩ : ∃ y, ys[7]? = some y := ⟨_, List.getElem?_eq_getElem (by rw [hyl]; decide)⟩
  rw [e7] at h7
  obtain ⟨y8, e8⟩ : ∃ y, ys[8]? = some y := ⟨_, List.getElem?_eq_getElem (by rw [hyl]; decide)⟩
  rw [e8] at h8
  obtain ⟨y9, e9⟩ : ∃ y, ys[9]? = some y := ⟨_, List.getElem?_eq_getElem (by rw [hyl]; decide)⟩
  rw [e9] at h9
  obtain ⟨y10, e10⟩ : ∃ y, ys[10]? = some y := ⟨_, List.getElem?_eq_getElem (by rw [hyl]; decide)⟩
  rw [e10] at h10
  simp only [List.drop_zero, List.take_succ_cons, List.take_zero, List.drop_succ_cons] at h0 h1 h2 h3 h4 h5 h6 h7 h8 h9 h10
  obtain ⟨s0, q0, -, z0⟩ := DataW.trod_string Tryz.underlying9 h0
  obtain ⟨s1, q1, -, z1⟩ := DataW.trod_string Tryz.underlying9 h1
  obtain ⟨s2, q2, -, z2⟩ := DataW.trod_int Tryz.underlying3 h2
  obtain ⟨l1, r3⟩ := Vec.reads_of_trod h3
  obtain ⟨l2, r4⟩ := set_of_trod h4
  obtain ⟨l3, r5⟩ := sel_of_trod h5
  obtain ⟨l4, r6⟩ := rowO_of_trod h6
  obtain ⟨s7, q7, -, z7⟩ := DataW.trod_string Tryz.underlying9 h7
  obtain ⟨s8, q8, -, z8⟩ := DataW.trod_int Tryz.underlying3 h8
  obtain ⟨s9, q9, -, z9⟩ := DataW.trod_string Tryz.underlying9 h9
  obtain ⟨s10, q10, -⟩ := DataW.trod_bool Tryz.underlying4 h10
  simp only [List.cons.injEq, and_true] at q0 q1 q2 q7 q8 q9 q10
  subst q0; subst q1; subst q2; subst q7; subst q8; subst q9; subst q10
  exact ⟨⟨s0, s1, s2, l1, l2, l3, l4, s7, s8, s9, s10⟩, _, _, _, _, rfl, ⟨z0, z1, z7, z9, bounds_i64 z2, bounds_i64 z8, r3, r4, r5, r6⟩⟩
set_option maxRecDepth 100000 in
theorem pod_arg {H : Type} {enc : TypeId × Value → H} {W : World} {r : Reach} {b0 base : Nat} {sp : Nat → Bool} {held : Bool} {v : Value} {d : DataW H} {ps : List MemPlace} (hval : Value.okWide Tryz.prog W r b0 49 v) (h : DataW.Trod enc Tryz.prog W base sp held 49 v d ps) : ∃ n, PodR W v n := by
 obtain ⟨cs, rfl, hsz⟩ := okWide_struct Tryz.underlying49 hval
 obtain ⟨fuel, hf⟩ := h
 obtain ⟨n, v1, v2, v3, v4, ha, hat⟩ := pod_of_trod hf
 have e : cs.toList = [.string n.name, .string n.owner, .int .i64 n.prio, v1, v2, v3, v4, .string n.key, .int .i64 n.most, .string n.node, .bool n.hold] := by
  have : (Value.agg cs).cells.toList = [.string n.name, .string n.owner, .int .i64 n.prio, v1, v2, v3, v4, .string n.key, .int .i64 n.most, .string n.node, .bool n.hold] := ha
  simpa [Value.cells] using this
 have : cs = #[.string n.name, .string n.owner, .int .i64 n.prio, v1, v2, v3, v4, .string n.key, .int .i64 n.most, .string n.node, .bool n.hold] := Array.ext' e
 rw [this]
 exact ⟨n, v1, v2, v3, v4, rfl, hat⟩
end Go.Proofs.YtfpgekjhcfoohaaGreat
