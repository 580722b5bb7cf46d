/- Rows of budgets that came in. -/
import Derived.Test.YtapnffejnhkoaaaGreatPodsRow
import Derived.Test.YtapnffejnhkoaaaGreatBudR
namespace Go.Proofs.YtapnffejnhkoaaaGreat
open Go.ChangeShapes Go.WideShapes Go.ChangeAt Go.RowKit Go.Deep
set_option linter.unusedVariables false

def BudLay (w : World) : Lay BX := { m := 3, cs := BudLay0.cs, fine := At1 w, len := fun _ => rfl, one := BudLay0.one, pos := by decide }
theorem cellsBd : Tryz.prog.cellsOf 91 = 3 := by kernel_rfl
set_option maxRecDepth 100000 in
theorem budX_of_trod {H : Type} {enc : TypeId × Value → H} {w : World} {base fuel : Nat} {sp : Nat → Bool} {held : Bool} {cs : List Value} {x : DataW H × List MemPlace} (h : DataW.trod enc Tryz.prog w base sp held fuel 91 cs = some x) :
    ∃ a : BX, cs = (BudLay w).cs a ∧ (BudLay w).fine a := by
  obtain ⟨ys, m, -, -, hlen, hyl, hf⟩ := DataW.trod_struct Tryz.underlying91 h
  rw [cellsBd] at hlen
  match cs, hlen with
  | [c0, c1, c2], _ =>
    have h0 : DataW.trod enc Tryz.prog w base sp held m 9 (([c0, c1, c2].drop 0).take (Tryz.prog.cellsOf 9)) = ys[0]? := hf 0 _ rfl
    have h1 : DataW.trod enc Tryz.prog w base sp held m 48 (([c0, c1, c2].drop 1).take (Tryz.prog.cellsOf 48)) = ys[1]? := hf 1 _ rfl
    have h2 : DataW.trod enc Tryz.prog w base sp held m 3 (([c0, c1, c2].drop 2).take (Tryz.prog.cellsOf 3)) = ys[2]? := hf 2 _ rfl
    rw [cellsS] at h0
    rw [cellsTL] at h1
    rw [cellsI] at h2
    obtain ⟨y0, e0⟩ : ∃ y, ys[0]? = some y := ⟨_, List.getElem?_eq_getElem (by rw [hyl]; decide)⟩
    rw [e0] at h0
    obtain ⟨y1, e1⟩ : ∃ y, ys[1]? = some y := ⟨_, List.getElem?_eq_getElem (by rw [hyl]; decide)⟩
    rw [e1] at h1
    obtain ⟨y2, e2⟩ : ∃ y, ys[2]? = some y := ⟨_, List.getElem?_eq_getElem (by rw [hyl]; decide)⟩
    rw [e2] at h2
    simp only [List.drop_zero, List.take_succ_cons, List.take_zero, List.drop_succ_cons] at h0 h1 h2
    obtain ⟨s0, q0, -, z0⟩ := DataW.trod_string Tryz.underlying9 h0
    obtain ⟨l3, r5⟩ := sel_of_trod h1
    obtain ⟨s2, q2, -, z2⟩ := DataW.trod_int Tryz.underlying3 h2
    have r5' := r5
    obtain ⟨a1, d1, rfl, -⟩ := r5'
    simp only [List.cons.injEq, and_true] at q0 q2
    subst q0; subst q2
    exact ⟨(⟨s0, l3, s2⟩, (a1, l3.length, d1)), rfl, ⟨z0, bounds_i64 z2, r5⟩⟩
theorem buds_of_trod {H : Type} {enc : TypeId × Value → H} {w : World} {base fuel : Nat} {sp : Nat → Bool} {held : Bool} {v : Value} {x : DataW H × List MemPlace} (h : DataW.trod enc Tryz.prog w base sp held fuel 24 [v] = some x) : ∃ l, BudsR w v l := by
  obtain ⟨l, a, cap, rfl, h1, h2, h3⟩ := reads_of_trod (BudLay w) Tryz.underlying24 cellsBd (fun _ _ _ h => budX_of_trod h) h
  obtain ⟨g0, g1, g2, g3⟩ := h3
  refine ⟨l.map (fun z => z.1), a, cap, by rw [List.length_map], by rw [List.length_map]; exact h1, h2, rfl, by rw [List.length_map]; exact g1, ?_⟩
  rw [List.length_map]
  rcases g3 with g3 | ⟨b, off, rfl, hb, hc⟩
  · exact .inl g3
  · refine .inr ⟨b, off, rfl, hb, fun i n hi => ?_⟩
    rw [List.getElem?_map] at hi
    obtain ⟨z, hz, rfl⟩ := Option.map_eq_some_iff.1 hi
    exact ⟨slV z.2, hc i z 0 _ hz rfl, hc i z 1 _ hz rfl, hc i z 2 _ hz rfl, g2 z (List.mem_of_getElem? hz)⟩

end Go.Proofs.YtapnffejnhkoaaaGreat
