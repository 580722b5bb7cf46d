/- What a law of nodes is told: its arguments. -/
import Derived.Test.YtfpgekjhcfoohaaGreatNodOf
import Derived.Test.YtfpgekjhcfoohaaGreatResC
import Derived.Test.YtfpgekjhcfoohaaGreatLab
import Derived.Test.YtfpgekjhcfoohaaGreatTai
set_option linter.unusedVariables false
namespace Go.Proofs.YtfpgekjhcfoohaaGreat
open Go.ChangeShapes Go.WideShapes Go.ChangeAt Go.RowKit Go.Deep
theorem one_node (x : NX) (u : Value) (h : u ∈ [Value.string x.1.name, slV x.2.1, slV x.2.2.1, slV x.2.2.2, .bool x.1.cordon]) : u.oneCell' = true := by
 simp only [List.mem_cons, List.not_mem_nil, or_false] at h
 rcases h with rfl | rfl | rfl | rfl | rfl <;> rfl
def NodLay (w : World) : Lay NX := { m := 5, cs := fun x => [.string x.1.name, slV x.2.1, slV x.2.2.1, slV x.2.2.2, .bool x.1.cordon], fine := fun x => NodAt w (slV x.2.1) (slV x.2.2.1) (slV x.2.2.2) x.1, len := fun _ => rfl, one := one_node, pos := by decide }
theorem cellsV : Tryz.prog.cellsOf 38 = 1 := by kernel_rfl
theorem cellsL : Tryz.prog.cellsOf 40 = 1 := by kernel_rfl
theorem cellsT' : Tryz.prog.cellsOf 41 = 1 := by kernel_rfl
theorem cellsN : Tryz.prog.cellsOf 43 = 5 := by kernel_rfl
set_option maxRecDepth 100000 in
theorem node_of_trod {H : Type} {enc : TypeId × Value → H} {w : World} {base fuel : Nat} {sp : Nat → Bool} {held : Bool} {cs : List Value} {x : DataW H × List MemPlace} (h : DataW.trod enc Tryz.prog w base sp held fuel 43 cs = some x) :
 ∃ a : NX, cs = (NodLay w).cs a ∧ (NodLay w).fine a := by
 obtain ⟨ys, m, -, -, hlen, hyl, hf⟩ := DataW.trod_struct Tryz.underlying43 h
 rw [cellsN] at hlen
 match cs, hlen with
 | [c0, c1, c2, c3, c4], _ =>
  have h0 : DataW.trod enc Tryz.prog w base sp held m 9 (([c0, c1, c2, c3, c4].drop 0).take (Tryz.prog.cellsOf 9)) = ys[0]? := hf 0 _ rfl
  have h1 : DataW.trod enc Tryz.prog w base sp held m 38 (([c0, c1, c2, c3, c4].drop 1).take (Tryz.prog.cellsOf 38)) = ys[1]? := hf 1 _ rfl
  have h2 : DataW.trod enc Tryz.prog w base sp held m 40 (([c0, c1, c2, c3, c4].drop 2).take (Tryz.prog.cellsOf 40)) = ys[2]? := hf 2 _ rfl
  have h3 : DataW.trod enc Tryz.prog w base sp held m 41 (([c0, c1, c2, c3, c4].drop 3).take (Tryz.prog.cellsOf 41)) = ys[3]? := hf 3 _ rfl
  have h4 : DataW.trod enc Tryz.prog w base sp held m 4 (([c0, c1, c2, c3, c4].drop 4).take (Tryz.prog.cellsOf 4)) = ys[4]? := hf 4 _ rfl
  rw [cellsS] at h0
  rw [cellsV] at h1
  rw [cellsL] at h2
  rw [cellsT'] at h3
  rw [cellsB] at h4
  obtain ⟨y0, e0⟩ : ∃ y, ys[0]? = some y := ⟨_, List.getElem?_eq_getElem (by rw [hyl]; decide)⟩
  obtain ⟨y1, e1⟩ : ∃ y, ys[1]? = some y := ⟨_, List.getElem?_eq_getElem (by rw [hyl]; decide)⟩
  obtain ⟨y2, e2⟩ : ∃ y, ys[2]? = some y := ⟨_, List.getElem?_eq_getElem (by rw [hyl]; decide)⟩
  obtain ⟨y3, e3⟩ : ∃ y, ys[3]? = some y := ⟨_, List.getElem?_eq_getElem (by rw [hyl]; decide)⟩
  obtain ⟨y4, e4⟩ : ∃ y, ys[4]? = some y := ⟨_, List.getElem?_eq_getElem (by rw [hyl]; decide)⟩
  rw [e0] at h0
  rw [e1] at h1
  rw [e2] at h2
  rw [e3] at h3
  rw [e4] at h4
  simp only [List.drop_zero, List.take_succ_cons, List.take_zero, List.drop_succ_cons] at h0 h1 h2 h3 h4
  obtain ⟨s, q0, -, hs⟩ := DataW.trod_string Tryz.underlying9 h0
  obtain ⟨b, q4, -⟩ := DataW.trod_bool Tryz.underlying4 h4
  obtain ⟨l1, r1⟩ := Vec.reads_of_trod h1
  obtain ⟨l2, r2⟩ := set_of_trod h2
  obtain ⟨l3, r3⟩ := rowA_of_trod h3
  have r1' := r1
  have r2' := r2
  have r3' := r3
  obtain ⟨a1, d1, rfl, -⟩ := r1'
  obtain ⟨a2, d2, rfl, -⟩ := r2'
  obtain ⟨a3, d3, rfl, -⟩ := r3'
  simp only [List.cons.injEq, and_true] at q0 q4
  subst q0; subst q4
  exact ⟨(⟨s, l1, l2, l3, b⟩, (a1, l1.length, d1), (a2, l2.length, d2), (a3, l3.length, d3)), rfl, ⟨hs, r1, r2, r3⟩⟩
theorem nodes_of_trod {H : Type} {enc : TypeId × Value → H} {w : World} {base fuel : Nat} {sp : Nat → Bool} {held : Bool} {v : Value} {x : DataW H × List MemPlace} (h : DataW.trod enc Tryz.prog w base sp held fuel 22 [v] = some x) : ∃ l, NodesR w v l := by
 obtain ⟨l, a, cap, rfl, h1, h2, h3⟩ := reads_of_trod (NodLay w) Tryz.underlying22 cellsN (fun _ _ _ h => node_of_trod h) h
 obtain ⟨g0, g1, g2, g3⟩ := h3
 refine ⟨l.map (fun z => z.1), a, cap, by rw [List.length_map], by rw [List.length_map]; exact h1, h2, rfl, by rw [List.length_map]; exact g1, ?_⟩
 rw [List.length_map]
 rcases g3 with g3 | ⟨b, off, rfl, hb, hc⟩
 · exact .inl g3
 · refine .inr ⟨b, off, rfl, hb, fun i n hi => ?_⟩
   rw [List.getElem?_map] at hi
   obtain ⟨z, hz, rfl⟩ := Option.map_eq_some_iff.1 hi
   exact ⟨_, _, _, _, _, _, _, _, _, hc i z 0 _ hz rfl, hc i z 1 _ hz rfl, hc i z 2 _ hz rfl, hc i z 3 _ hz rfl, hc i z 4 _ hz rfl, g2 z (List.mem_of_getElem? hz)⟩
end Go.Proofs.YtfpgekjhcfoohaaGreat
