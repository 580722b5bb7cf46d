/- What a law of labels is told: its arguments, the library's variables. -/
import Derived.Test.YtmmjcomoabfmnaaDoorGRow
import Derived.Test.YtmmjcomoabfmnaaDoorLabReads
import Derived.WalkKit
import Derived.ProofKit
import Derived.OpenShut
import Derived.ChangeOld
import Derived.ChangeMaps5
import Derived.Below
import Derived.Deep.Slices
import Derived.Deep.Fields
import Derived.ChangeSame
import Derived.Lib.LaidTab
import Derived.Stop.Joined
import Derived.Shelf.Vars
import Derived.MakeChecks
import Derived.LaidLaws
import Derived.RowKitTokens
namespace Go.Proofs.YtmmjcomoabfmnaaDoor
open Go.ChangeShapes Go.WideShapes Go.ChangeAt Go.RowKit Go.Deep
set_option linter.unusedVariables false

theorem cellsP : Tryd.prog.cellsOf 63 = 2 := by kernel_rfl
theorem cellsT : Tryd.prog.cellsOf 60 = 3 := by kernel_rfl
theorem cellsI : Tryd.prog.cellsOf 3 = 1 := by kernel_rfl

set_option maxRecDepth 100000 in
/-- One pair, read. -/
theorem pair_of_trod {H : Type} {enc : TypeId × Value → H} {w : World} {base fuel : Nat} {sp : Nat → Bool} {held : Bool} {cs : List Value} {x : DataW H × List MemPlace} (h : DataW.trod enc Tryd.prog w base sp held fuel 63 cs = some x) :
    ∃ a : ByteArray × ByteArray, cs = PairLay.cs a ∧ PairLay.fine a := by
  obtain ⟨ys, m, -, -, hlen, hyl, hf⟩ := DataW.trod_struct Tryd.underlying63 h
  rw [cellsP] at hlen
  match cs, hlen with
  | [c0, c1], _ =>
    have h0 : DataW.trod enc Tryd.prog w base sp held m 9 (([c0, c1].drop 0).take (Tryd.prog.cellsOf 9)) = ys[0]? := hf 0 _ rfl
    have h1 : DataW.trod enc Tryd.prog w base sp held m 9 (([c0, c1].drop 1).take (Tryd.prog.cellsOf 9)) = ys[1]? := hf 1 _ rfl
    rw [cellsS] at h0 h1
    obtain ⟨y0, e0⟩ : ∃ y, ys[0]? = some y := ⟨_, List.getElem?_eq_getElem (by rw [hyl]; decide)⟩
    obtain ⟨y1, e1⟩ : ∃ y, ys[1]? = some y := ⟨_, List.getElem?_eq_getElem (by rw [hyl]; decide)⟩
    rw [e0] at h0
    rw [e1] at h1
    obtain ⟨s, q0, -, hs⟩ := DataW.trod_string Tryd.underlying9 h0
    obtain ⟨t, q1, -, ht⟩ := DataW.trod_string Tryd.underlying9 h1
    simp only [List.drop_zero, List.take_succ_cons, List.take_zero, List.cons.injEq, and_true, List.drop_succ_cons] at q0 q1
    subst q0; subst q1
    exact ⟨(s, t), rfl, hs, ht⟩

set_option maxRecDepth 100000 in
/-- One term, read. -/
theorem term_of_trod {H : Type} {enc : TypeId × Value → H} {w : World} {base fuel : Nat} {sp : Nat → Bool} {held : Bool} {cs : List Value} {x : DataW H × List MemPlace} (h : DataW.trod enc Tryd.prog w base sp held fuel 60 cs = some x) :
    ∃ a : Int × ByteArray × ByteArray, cs = TermLay.cs a ∧ TermLay.fine a := by
  obtain ⟨ys, m, -, -, hlen, hyl, hf⟩ := DataW.trod_struct Tryd.underlying60 h
  rw [cellsT] at hlen
  match cs, hlen with
  | [c0, c1, c2], _ =>
    have h0 : DataW.trod enc Tryd.prog w base sp held m 3 (([c0, c1, c2].drop 0).take (Tryd.prog.cellsOf 3)) = ys[0]? := hf 0 _ rfl
    have h1 : DataW.trod enc Tryd.prog w base sp held m 9 (([c0, c1, c2].drop 1).take (Tryd.prog.cellsOf 9)) = ys[1]? := hf 1 _ rfl
    have h2 : DataW.trod enc Tryd.prog w base sp held m 9 (([c0, c1, c2].drop 2).take (Tryd.prog.cellsOf 9)) = ys[2]? := hf 2 _ rfl
    rw [cellsS] at h1 h2
    rw [cellsI] at h0
    obtain ⟨y0, e0⟩ : ∃ y, ys[0]? = some y := ⟨_, List.getElem?_eq_getElem (by rw [hyl]; decide)⟩
    obtain ⟨y1, e1⟩ : ∃ y, ys[1]? = some y := ⟨_, List.getElem?_eq_getElem (by rw [hyl]; decide)⟩
    obtain ⟨y2, e2⟩ : ∃ y, ys[2]? = some y := ⟨_, List.getElem?_eq_getElem (by rw [hyl]; decide)⟩
    rw [e0] at h0
    rw [e1] at h1
    rw [e2] at h2
    obtain ⟨n, q0, -, hn⟩ := DataW.trod_int Tryd.underlying3 h0
    obtain ⟨s, q1, -, hs⟩ := DataW.trod_string Tryd.underlying9 h1
    obtain ⟨t, q2, -, ht⟩ := DataW.trod_string Tryd.underlying9 h2
    simp only [List.drop_zero, List.take_succ_cons, List.take_zero, List.cons.injEq, and_true, List.drop_succ_cons] at q0 q1 q2
    subst q0; subst q1; subst q2
    exact ⟨(n, s, t), rfl, bounds_i64 hn, hs, ht⟩

theorem set_of_trod {H : Type} {enc : TypeId × Value → H} {w : World} {base fuel : Nat} {sp : Nat → Bool} {held : Bool} {v : Value} {x : DataW H × List MemPlace} (h : DataW.trod enc Tryd.prog w base sp held fuel 23 [v] = some x) : ∃ l, Reads PairLay w v l :=
  reads_of_trod PairLay Tryd.underlying23 cellsP (fun _ _ _ h => pair_of_trod h) h
theorem sel_of_trod {H : Type} {enc : TypeId × Value → H} {w : World} {base fuel : Nat} {sp : Nat → Bool} {held : Bool} {v : Value} {x : DataW H × List MemPlace} (h : DataW.trod enc Tryd.prog w base sp held fuel 25 [v] = some x) : ∃ l, Reads TermLay w v l :=
  reads_of_trod TermLay Tryd.underlying25 cellsT (fun _ _ _ h => term_of_trod h) h

end Go.Proofs.YtmmjcomoabfmnaaDoor
