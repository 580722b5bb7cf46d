/- What a law of clusters is told: its arguments. -/
import Derived.Test.YtfpgekjhcfoohaaGreatNodRow
import Derived.Test.YtfpgekjhcfoohaaGreatPodsRow
import Derived.Test.YtfpgekjhcfoohaaGreatBudRow
import Derived.Test.YtfpgekjhcfoohaaGreatStA
set_option linter.unusedVariables false
namespace Go.Proofs.YtfpgekjhcfoohaaGreat
open Go.ChangeShapes Go.WideShapes Go.ChangeAt Go.RowKit Go.Deep
theorem cellsSt : Tryz.prog.cellsOf 26 = 3 := by kernel_rfl
theorem cellsSt1 : Tryz.prog.cellsOf 22 = 1 := by kernel_rfl
theorem cellsSt2 : Tryz.prog.cellsOf 23 = 1 := by kernel_rfl
theorem cellsSt3 : Tryz.prog.cellsOf 24 = 1 := by kernel_rfl
set_option maxRecDepth 100000 in
theorem clu_of_trod {H : Type} {enc : TypeId × Value → H} {w : World} {base fuel : Nat} {sp : Nat → Bool} {held : Bool} {cs : List Value} {x : DataW H × List MemPlace} (h : DataW.trod enc Tryz.prog w base sp held fuel 26 cs = some x) :
 ∃ v1 v2 v3 s, cs = [v1, v2, v3] ∧ CluAt w v1 v2 v3 s := by
 obtain ⟨ys, m, -, -, hlen, hyl, hf⟩ := DataW.trod_struct Tryz.underlying26 h
 rw [cellsSt] at hlen
 match cs, hlen with
 | [c0, c1, c2], _ =>
  have h0 : DataW.trod enc Tryz.prog w base sp held m 22 (([c0, c1, c2].drop 0).take (Tryz.prog.cellsOf 22)) = ys[0]? := hf 0 _ rfl
  rw [cellsSt1] at h0
  obtain ⟨y0, e0⟩ : ∃ y, ys[0]? = some y := ⟨_, List.getElem?_eq_getElem (by rw [hyl]; decide)⟩
  rw [e0] at h0
  have h1 : DataW.trod enc Tryz.prog w base sp held m 23 (([c0, c1, c2].drop 1).take (Tryz.prog.cellsOf 23)) = ys[1]? := hf 1 _ rfl
  rw [cellsSt2] at h1
  obtain ⟨y1, e1⟩ : ∃ y, ys[1]? = some y := ⟨_, List.getElem?_eq_getElem (by rw [hyl]; decide)⟩
  rw [e1] at h1
  have h2 : DataW.trod enc Tryz.prog w base sp held m 24 (([c0, c1, c2].drop 2).take (Tryz.prog.cellsOf 24)) = ys[2]? := hf 2 _ rfl
  rw [cellsSt3] at h2
  obtain ⟨y2, e2⟩ : ∃ y, ys[2]? = some y := ⟨_, List.getElem?_eq_getElem (by rw [hyl]; decide)⟩
  rw [e2] at h2
  simp only [List.drop_zero, List.take_succ_cons, List.take_zero, List.drop_succ_cons] at h0 h1 h2
  obtain ⟨l0, r0⟩ := nodes_of_trod h0
  obtain ⟨l1, r1⟩ := pods_of_trod h1
  obtain ⟨l2, r2⟩ := buds_of_trod h2
  exact ⟨c0, c1, c2, ⟨l0, l1, l2⟩, rfl, ⟨r0, r1, r2⟩⟩
set_option maxRecDepth 100000 in
theorem clu_arg {H : Type} {enc : TypeId × Value → H} {W : World} {r : Reach} {b0 base : Nat} {sp : Nat → Bool} {held : Bool} {v : Value} {d : DataW H} {ps : List MemPlace} (hval : Value.okWide Tryz.prog W r b0 26 v) (h : DataW.Trod enc Tryz.prog W base sp held 26 v d ps) : ∃ s, CluR W v s := by
 obtain ⟨cs, rfl, hsz⟩ := okWide_struct Tryz.underlying26 hval
 obtain ⟨fuel, hf⟩ := h
 obtain ⟨v1, v2, v3, s, ha, hat⟩ := clu_of_trod hf
 have e : cs.toList = [v1, v2, v3] := by
  have : (Value.agg cs).cells.toList = [v1, v2, v3] := ha
  simpa [Value.cells] using this
 have : cs = #[v1, v2, v3] := Array.ext' e
 rw [this]
 exact ⟨s, v1, v2, v3, rfl, hat⟩
end Go.Proofs.YtfpgekjhcfoohaaGreat
