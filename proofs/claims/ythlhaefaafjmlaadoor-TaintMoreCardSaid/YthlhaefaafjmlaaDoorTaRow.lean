/- What a law of taints is told: its arguments. -/
import Derived.Test.YthlhaefaafjmlaaDoorGRow
import Derived.Test.YthlhaefaafjmlaaDoorTaBase
namespace Go.Proofs.YthlhaefaafjmlaaDoor
open Go.ChangeShapes Go.WideShapes Go.ChangeAt Go.RowKit Go.Deep
set_option linter.unusedVariables false

theorem cellsB : Tryd.prog.cellsOf 4 = 1 := by kernel_rfl
theorem cellsA : Tryd.prog.cellsOf 37 = 3 := by kernel_rfl
set_option maxRecDepth 100000 in
theorem triA_of_trod {H : Type} {enc : TypeId × Value → H} {w : World} {base fuel : Nat} {sp : Nat → Bool} {held : Bool} {cs : List Value} {x : DataW H × List MemPlace} (h : DataW.trod enc Tryd.prog w base sp held fuel 37 cs = some x) :
    ∃ a : NT, cs = TaLay.cs a ∧ TaLay.fine a := by
  obtain ⟨ys, m, -, -, hlen, hyl, hf⟩ := DataW.trod_struct Tryd.underlying37 h
  rw [cellsA] at hlen
  match cs, hlen with
  | [c0, c1, c2], _ =>
    have h0 : DataW.trod enc Tryd.prog w base sp held m 9 (([c0, c1, c2].drop 0).take (Tryd.prog.cellsOf 9)) = ys[0]? := hf 0 _ rfl
    have h1 : DataW.trod enc Tryd.prog w base sp held m 9 (([c0, c1, c2].drop 1).take (Tryd.prog.cellsOf 9)) = ys[1]? := hf 1 _ rfl
    have h2 : DataW.trod enc Tryd.prog w base sp held m 4 (([c0, c1, c2].drop 2).take (Tryd.prog.cellsOf 4)) = ys[2]? := hf 2 _ rfl
    rw [cellsS] at h0 h1
    rw [cellsB] at h2
    obtain ⟨y0, e0⟩ : ∃ y, ys[0]? = some y := ⟨_, List.getElem?_eq_getElem (by rw [hyl]; decide)⟩
    obtain ⟨y1, e1⟩ : ∃ y, ys[1]? = some y := ⟨_, List.getElem?_eq_getElem (by rw [hyl]; decide)⟩
    obtain ⟨y2, e2⟩ : ∃ y, ys[2]? = some y := ⟨_, List.getElem?_eq_getElem (by rw [hyl]; decide)⟩
    rw [e0] at h0
    rw [e1] at h1
    rw [e2] at h2
    obtain ⟨s, q0, -, hs⟩ := DataW.trod_string Tryd.underlying9 h0
    obtain ⟨t, q1, -, ht⟩ := DataW.trod_string Tryd.underlying9 h1
    obtain ⟨b, q2, -⟩ := DataW.trod_bool Tryd.underlying4 h2
    simp only [List.drop_zero, List.take_succ_cons, List.take_zero, List.cons.injEq, and_true, List.drop_succ_cons] at q0 q1 q2
    subst q0; subst q1; subst q2
    exact ⟨(s, t, b), rfl, hs, ht⟩
theorem rowA_of_trod {H : Type} {enc : TypeId × Value → H} {w : World} {base fuel : Nat} {sp : Nat → Bool} {held : Bool} {v : Value} {x : DataW H × List MemPlace} (h : DataW.trod enc Tryd.prog w base sp held fuel 22 [v] = some x) : ∃ l, Reads TaLay w v l :=
  reads_of_trod TaLay Tryd.underlying22 cellsA (fun _ _ _ h => triA_of_trod h) h
theorem cellsO : Tryd.prog.cellsOf 64 = 3 := by kernel_rfl
set_option maxRecDepth 100000 in
theorem triO_of_trod {H : Type} {enc : TypeId × Value → H} {w : World} {base fuel : Nat} {sp : Nat → Bool} {held : Bool} {cs : List Value} {x : DataW H × List MemPlace} (h : DataW.trod enc Tryd.prog w base sp held fuel 64 cs = some x) :
    ∃ a : NT, cs = TaLay.cs a ∧ TaLay.fine a := by
  obtain ⟨ys, m, -, -, hlen, hyl, hf⟩ := DataW.trod_struct Tryd.underlying64 h
  rw [cellsO] at hlen
  match cs, hlen with
  | [c0, c1, c2], _ =>
    have h0 : DataW.trod enc Tryd.prog w base sp held m 9 (([c0, c1, c2].drop 0).take (Tryd.prog.cellsOf 9)) = ys[0]? := hf 0 _ rfl
    have h1 : DataW.trod enc Tryd.prog w base sp held m 9 (([c0, c1, c2].drop 1).take (Tryd.prog.cellsOf 9)) = ys[1]? := hf 1 _ rfl
    have h2 : DataW.trod enc Tryd.prog w base sp held m 4 (([c0, c1, c2].drop 2).take (Tryd.prog.cellsOf 4)) = ys[2]? := hf 2 _ rfl
    rw [cellsS] at h0 h1
    rw [cellsB] at h2
    obtain ⟨y0, e0⟩ : ∃ y, ys[0]? = some y := ⟨_, List.getElem?_eq_getElem (by rw [hyl]; decide)⟩
    obtain ⟨y1, e1⟩ : ∃ y, ys[1]? = some y := ⟨_, List.getElem?_eq_getElem (by rw [hyl]; decide)⟩
    obtain ⟨y2, e2⟩ : ∃ y, ys[2]? = some y := ⟨_, List.getElem?_eq_getElem (by rw [hyl]; decide)⟩
    rw [e0] at h0
    rw [e1] at h1
    rw [e2] at h2
    obtain ⟨s, q0, -, hs⟩ := DataW.trod_string Tryd.underlying9 h0
    obtain ⟨t, q1, -, ht⟩ := DataW.trod_string Tryd.underlying9 h1
    obtain ⟨b, q2, -⟩ := DataW.trod_bool Tryd.underlying4 h2
    simp only [List.drop_zero, List.take_succ_cons, List.take_zero, List.cons.injEq, and_true, List.drop_succ_cons] at q0 q1 q2
    subst q0; subst q1; subst q2
    exact ⟨(s, t, b), rfl, hs, ht⟩
theorem rowO_of_trod {H : Type} {enc : TypeId × Value → H} {w : World} {base fuel : Nat} {sp : Nat → Bool} {held : Bool} {v : Value} {x : DataW H × List MemPlace} (h : DataW.trod enc Tryd.prog w base sp held fuel 23 [v] = some x) : ∃ l, Reads TaLay w v l :=
  reads_of_trod TaLay Tryd.underlying23 cellsO (fun _ _ _ h => triO_of_trod h) h

end Go.Proofs.YthlhaefaafjmlaaDoor
