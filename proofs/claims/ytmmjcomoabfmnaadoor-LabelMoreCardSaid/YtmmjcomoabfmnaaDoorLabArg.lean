/- What a law of labels is told: a term as it stands, and how long a selector may be. -/
import Derived.Test.YtmmjcomoabfmnaaDoorLabRow
import Derived.SizedLaws
namespace Go.Proofs.YtmmjcomoabfmnaaDoor
open Go.ChangeShapes Go.WideShapes Go.ChangeAt Go.RowKit Go.Deep
set_option linter.unusedVariables false

set_option maxRecDepth 100000 in
theorem term_arg {H : Type} {enc : TypeId × Value → H} {W : World} {r : Reach} {b0 base : Nat} {sp : Nat → Bool} {held : Bool} {v : Value} {d : DataW H} {ps : List MemPlace} (hval : Value.okWide Tryd.prog W r b0 60 v) (h : DataW.Trod enc Tryd.prog W base sp held 60 v d ps) :
    ∃ t : Int × ByteArray × ByteArray, v = TV t.1 t.2.1 t.2.2 ∧ TermLay.fine t := by
  obtain ⟨cs, rfl, hsz⟩ := okWide_struct Tryd.underlying60 hval
  obtain ⟨fuel, hf⟩ := h
  obtain ⟨a, ha, hfine⟩ := term_of_trod hf
  refine ⟨a, ?_, hfine⟩
  have e : cs.toList = [Value.int .i64 a.1, Value.string a.2.1, Value.string a.2.2] := by
    have : (Value.agg cs).cells.toList = [Value.int .i64 a.1, Value.string a.2.1, Value.string a.2.2] := ha
    simpa [Value.cells] using this
  have : cs = #[Value.int .i64 a.1, Value.string a.2.1, Value.string a.2.2] := Array.ext' e
  rw [this]

set_option maxRecDepth 100000 in
theorem len_reach {H : Type} {enc : TypeId × Value → H} {W : World} {base : Nat} {sp : Nat → Bool} {held : Bool} {v : Value} {l : TL} {d : DataW H} {ps : List MemPlace} {ts : List TypeId} {ds : List (DataW H)} {j : Nat} (hr : Reads TermLay W v l) (hc : v.cells.toList = [v]) (h : DataW.Trod enc Tryd.prog W base sp held 25 v d ps)
    (hsz : (DataW.weightsEach Tryd.prog ts ds).all (· ≤ reachBytes) = true) (ht : ts[j]? = some 25) (hd : ds[j]? = some d) : l.length * 40 ≤ 140737488351232 := by
  obtain ⟨fuel, hf⟩ := h
  rw [hc] at hf
  obtain ⟨a, cap, rfl, h1, h2, h3⟩ := hr
  rcases open_slice Tryd.underlying25 hf with ⟨hcs, hx⟩ | ⟨a', len, cap', m, n, D, Pl, hcs, -, -, -, -, hx, -⟩
  · have e : l.length = 0 := by
      injection hcs with e _
      injection e
    omega
  · have e : l.length = len := by
      injection hcs with e _
      injection e
    have e2 := (Prod.mk.inj hx).1
    rw [e2] at hd
    have hs := sized_slice hsz ht hd Tryd.underlying25
    have hb : Tryd.prog.bytesOf 60 = 40 := by kernel_rfl
    rw [hb, List.length_map, List.length_range] at hs
    have hr : reachBytes = 140737488351232 := by decide
    rw [hr] at hs
    rw [e]
    exact Nat.le_trans (Nat.mul_le_mul_right 40 (Nat.le_add_right _ _)) hs

end Go.Proofs.YtmmjcomoabfmnaaDoor
