/- Pods put one by one where they stand least close stand evenly: no two domains differ by more than one, for every pair of bytes (the statement as it is given, with what it says of size). -/
import Derived.Test.YtokdjfoalkmhiaaG3
import Derived.Test.YtokdjfoalkmhiaaRows
import Derived.WalkKit
import Derived.ProofKit
import Derived.OpenShut
import Derived.ChangeOld
import Derived.Below
import Derived.Deep.Slices
import Derived.Deep.Fields
import Derived.ChangeSame
import Derived.Lib.LaidTab
import Derived.Stop.LaidErr
import Derived.Stop.Joined
import Derived.Shelf.Vars
import Derived.MakeChecks
import Derived.LaidLaws
import Derived.RowKitTokens
import Derived.Deep.DeepHandedRow
import Derived.Lay
import Derived.LaidMore
namespace Go.Proofs.Ytokdjfoalkmhiaa.spreadEven
open Go.ChangeShapes Go.WideShapes Go.ChangeAt Go.RowKit Go.ChangeMaps Go.Proofs.Ytokdjfoalkmhiaa
set_option linter.unusedVariables false

theorem own : ownKnob Try.prog.godebug = none := by kernel_rfl
theorem laidOut : laidOutB Try.prog = true := by kernel_rfl

set_option maxRecDepth 100000 in
theorem contract (H : Type) (enc : TypeId × Value → H) (W : World) (base : Nat) (args : Array Value) (ds gs : List (DataW H)) (before : List MemPlace)
    (hval : ∀ (j : Nat) t v, Try.f3.params[j]? = some t → args[j]? = some v → Value.okWide Try.prog W .any base t v)
    (hW : DataW.Whole enc Try.prog Try.f3.params.toList Rows.spreadEvenSpec.vars false W args.toList ds gs before) (hL : laidMetH Try.prog Rows.spreadEvenRow.laid W) (hS : W.ShapedOpen Try.prog) :
    Calls Try.prog 3 args W fun e W' => ∃ v, e = .returned v ∧ Rows.spreadEvenSpec.post enc Try.prog Try.f3 false true false false W args v W' := by
  have hW' := hW
  obtain ⟨p, q, hA0, hV, rfl, hfz, hnd⟩ := hW
  have hA : DataW.TrodAll enc Try.prog W 0 (fun _ => true) true Try.f3.params.toList args.toList ds p := hA0
  rw [Try.params3] at hA hval
  obtain ⟨v0, vs0, d0, ds0, p0, q0, hargs, rfl, rfl, h0, r0⟩ := trodAll_cons hA
  obtain ⟨v1, vs1, d1, ds1, p1, q1, hv1, rfl, rfl, h1, r1⟩ := trodAll_cons r0
  obtain ⟨rfl, rfl, rfl⟩ := trodAll_nil r1
  obtain rfl : args = #[v0, v1] := Array.ext' (by rw [hargs, hv1])
  obtain ⟨rfl, rfl⟩ := trodVars_none hV
  obtain ⟨n0, rfl, rfl, rfl, w0⟩ := open_int Try.underlying5 (hval 0 5 v0 (by simp) (by simp)) h0
  obtain ⟨n1, rfl, rfl, rfl, w1⟩ := open_int Try.underlying5 (hval 1 5 v1 (by simp) (by simp)) h1
  clear hA0
  refine (SpreadEven_walk n0 n1 W w0 w1).mono fun e W' ⟨he, bel⟩ => ?_
  subst he
  exact ⟨_, rfl, _, _, _, [], _, [], hW', trodAll_mk1 (shut_bool Try.underlying4 _), (trodAll_cons_mk (shut_int Try.underlying5 w0) (trodAll_cons_mk (shut_int Try.underlying5 w1) trodAll_mk0)), rfl, bel.frame _, fun h => by cases h⟩

theorem reads (os : Os) {H : Type} (enc : TypeId × Value → H) : ∃ places, DataW.whole enc Try.prog ((World.laidAll Try.prog os Rows.spreadEvenRow.laid).forCall (fun _ _ => 0) ⟨#[], #[.int .u8 0, .int .u8 0], []⟩).memory Try.f3.params.toList Rows.spreadEvenSpec.vars false (#[.int .u8 0, .int .u8 0] : Array Value).toList 8 = some ([.lit (.int .u8 0), .lit (.int .u8 0)], [], places) :=
  ⟨[], by kernel_rfl⟩
theorem ok (os : Os) : Input.okWideB Try.prog ((World.laidAll Try.prog os Rows.spreadEvenRow.laid).forCall (fun _ _ => 0) ⟨#[], #[.int .u8 0, .int .u8 0], []⟩) 3 ⟨#[], #[.int .u8 0, .int .u8 0], []⟩ = true := by kernel_rfl
theorem laid_met (os : Os) : laidMetH Try.prog Rows.spreadEvenRow.laid ((World.laidAll Try.prog os Rows.spreadEvenRow.laid).forCall (fun _ _ => 0) ⟨#[], #[.int .u8 0, .int .u8 0], []⟩).memory := by
  rw [MakeChecks.laidMetH_plain _ _ _ (by kernel_rfl)]
  exact laidMet_laidAll _ (by kernel_rfl) (by kernel_rfl)

set_option maxRecDepth 100000 in
theorem lifted (os : Os) (started : os.Started) (H : Type) (enc : TypeId × Value → H) (F : Stop.Interp) :
    ReturnsInHanded {} Try.checked os 3 .any ((OpenSpec.ofChange Rows.spreadEvenSpec).preRow enc Try.prog Try.f3 Rows.spreadEvenRow.domain false Rows.spreadEvenRow.laid) (((OpenSpec.ofChange Rows.spreadEvenSpec).at F).post enc Try.prog Try.f3 false true false false) := by
  obtain ⟨places, hx⟩ := reads os enc
  refine returnsInHanded_of_row (C := Try.checked) (s := OpenSpec.ofChange Rows.spreadEvenSpec) own started (by kernel_rfl) Try.func3
    ⟨World.laidAll Try.prog os Rows.spreadEvenRow.laid, fun _ _ => 0, ⟨#[], #[.int .u8 0, .int .u8 0], []⟩, World.laidAll_os _ _ _, World.shaped_of_ZipB (by kernel_rfl) (by kernel_rfl), (Input.okWide_of_okWideB (base := 0) (ok os)).1, (Input.okWide_of_okWideB (ok os)).2,
      OpenSpec.preRow_of_cond 8 hx (by kernel_rfl) (fun k hk => by cases hk) (by kernel_rfl) (laid_met os), by
        simp only [Assume.holds]
        exact ⟨by simp, by simp, fun _ => Modest.zero, by simp, by simp⟩⟩ ?_
  intro W base args ds gs before hval hW _ _ _ hL hS _
  exact contract H enc W base args ds gs before hval hW hL hS

theorem and_both {a b : Bool} (h : a = true) (g : b = true) : (a && b) = true := by rw [h, g]; rfl
theorem and_l {a b : Bool} (h : (a && b) = true) : a = true := by cases a <;> simp_all
theorem and_r {a b : Bool} (h : (a && b) = true) : b = true := by cases a <;> simp_all
theorem fact0 : (Rows.spreadEvenRow.wf (OpenSpec.ofChange (OpenSpec.ofChange Rows.spreadEvenSpec).bare) && (laidOutB Try.pinned.checked.prog && mapsRowed Try.pinned.checked.prog)) = true := by kernel_rfl
theorem fact1 : (Try.f3.params.all (Try.pinned.checked.prog.readableRec ·) && (namedTie Try.pinned.checked.prog Rows.spreadEvenRow.named (OpenSpec.ofChange Rows.spreadEvenSpec).bare.vars && ((Rows.spreadEvenRow.stops == []) && ((Try.pinned.checked.prog.stops == []) && ((Rows.spreadEvenRow.knobs == []) && (Try.pinned.checked.prog.stopKnobs == [])))))) = true := by kernel_rfl
theorem fact2 : (Rows.spreadEvenRow.inPlace == Try.pinned.checked.prog.inPlace 3) = true := by kernel_rfl
theorem fact3 : (Rows.spreadEvenRow.unfollowed == Try.pinned.checked.prog.unfollowed 3) = true := by kernel_rfl
theorem fact4 : (Rows.spreadEvenRow.recurses == Try.pinned.checked.prog.recurses 3) = true := by kernel_rfl
theorem fact5 : (Rows.spreadEvenRow.named == Try.pinned.checked.prog.varsNamed 3) = true := by kernel_rfl
theorem fact6 : ((Rows.spreadEvenRow.maps == (Try.f3.params.toList ++ (OpenSpec.ofChange Rows.spreadEvenSpec).bare.plain.varTypes Try.pinned.checked.prog).any (Try.pinned.checked.prog.mapsRec ·)) && ((Rows.spreadEvenRow.ifaces == (Try.f3.params.toList ++ (OpenSpec.ofChange Rows.spreadEvenSpec).bare.plain.varTypes Try.pinned.checked.prog).any (Try.pinned.checked.prog.ifacesRec ·)) && ((Rows.spreadEvenRow.mapsOut == Try.pinned.checked.prog.mapsAmong Try.f3.resultTypes.toList) && ((Rows.spreadEvenRow.loops == (Try.f3.params.toList ++ (OpenSpec.ofChange Rows.spreadEvenSpec).bare.plain.varTypes Try.pinned.checked.prog).any (Try.pinned.checked.prog.loopsFrom ·)) && (Rows.spreadEvenRow.wideKeys == (Try.f3.params.toList ++ (OpenSpec.ofChange Rows.spreadEvenSpec).bare.plain.varTypes Try.pinned.checked.prog ++ Try.f3.resultTypes.toList).any (Try.pinned.checked.prog.wideKeysFrom ·)))))) = true := by kernel_rfl
theorem fact7 : ((OpenSpec.ofChange Rows.spreadEvenSpec).bare.vars.all (Try.pinned.checked.prog.varReadable ·) && (Try.f3.resultTypes.all (fun t => Try.pinned.checked.prog.readableRec t && decide (t < Try.pinned.checked.prog.types.size)) && ((Rows.spreadEvenRow.ifacesOut == Try.f3.resultTypes.toList.any (Try.pinned.checked.prog.ifacesRec ·)) && ((Rows.spreadEvenRow.loopsOut == Try.f3.resultTypes.toList.any (Try.pinned.checked.prog.loopsFrom ·)) && (Rows.spreadEvenRow.plainKeys == Try.pinned.checked.prog.plainKeys))))) = true := by kernel_rfl
theorem fact8 : (Rows.spreadEvenRow.shortTexts.isNone && Try.pinned.checked.prog.stopsHeard) = true := by kernel_rfl
theorem fact9 : Try.pinned.checked.prog.mayEnter = true := by kernel_rfl
theorem fact10 : (Rows.spreadEvenRow.lifted == Try.pinned.checked.prog.liftsFinal) = true := by kernel_rfl
theorem fact11 : (Try.pinned.checked.prog.make == some Rows.spreadEvenRow.make) = true := by kernel_rfl
theorem fact12 : ((Rows.spreadEvenRow.kinds == (if Rows.spreadEvenRow.domain.isEmpty then [] else Try.f3.params.toList.map fun t => match Try.pinned.checked.prog.underlying t with | some (.int k) => some k | _ => none)) && ((Rows.spreadEvenRow.pinned == Rows.spreadEvenRow.pinnedBy) && ((Rows.spreadEvenRow.veiled == (Try.f3.params.toList ++ (OpenSpec.ofChange Rows.spreadEvenSpec).bare.plain.varTypes Try.pinned.checked.prog ++ Try.f3.resultTypes.toList).any (Try.pinned.checked.prog.veiledRec ·)) && Rows.spreadEvenRow.veiledFits Try.pinned.checked.prog Try.f3.params.toList (Try.f3.params.toList ++ (OpenSpec.ofChange Rows.spreadEvenSpec).bare.plain.varTypes Try.pinned.checked.prog ++ Try.f3.resultTypes.toList)))) = true := by kernel_rfl
set_option maxRecDepth 100000 in
theorem closed : joinedFacts Try.pinned.checked.prog 3 Try.f3 (OpenSpec.ofChange Rows.spreadEvenSpec).bare Rows.spreadEvenRow = true := and_both (and_both (and_both (and_both (and_both (and_both (and_both (and_both (and_both (and_both (and_both (and_both (and_both (and_both (and_both (and_both (and_both (and_both (and_both (and_both (and_both (and_both (and_both (and_both (and_both (and_both (and_both (and_both (and_both (and_both (and_both (and_l fact0) (and_l (and_r fact0))) (and_r (and_r fact0))) (and_l fact1)) (and_l (and_r fact1))) (and_l (and_r (and_r fact1)))) (and_l (and_r (and_r (and_r fact1))))) (and_l (and_r (and_r (and_r (and_r fact1)))))) (and_r (and_r (and_r (and_r (and_r fact1)))))) fact2) fact3) fact4) fact5) (and_l fact6)) (and_l (and_r fact6))) (and_l (and_r (and_r fact6)))) (and_l (and_r (and_r (and_r fact6))))) (and_r (and_r (and_r (and_r fact6))))) (and_l fact7)) (and_l (and_r fact7))) (and_l (and_r (and_r fact7)))) (and_l (and_r (and_r (and_r fact7))))) (and_r (and_r (and_r (and_r fact7))))) (and_l fact8)) (and_r fact8)) fact9) fact10) fact11) (and_l fact12)) (and_l (and_r fact12))) (and_l (and_r (and_r fact12)))) (and_r (and_r (and_r fact12)))
theorem said : Rows.SpreadEvenSaid :=
  OpenClaim.holds_of_cond 3 Try.f3 rfl rfl rfl rfl rfl rfl rfl ⟨rfl, rfl, rfl, rfl, rfl⟩ rfl rfl rfl rfl rfl (by kernel_rfl) Try.func3 closed
    (of_decide_eq_true (by kernel_rfl)) (by unfold Func.isWrapper; first | (rw [if_pos (by decide +kernel)]; kernel_rfl) | (rw [if_neg (by decide +kernel)]; exact ⟨rfl, rfl⟩))
    (fun os started H enc _ F => by rw [OpenClaim.pre_eq_preRow]; exact lifted os started H enc F)

theorem proved : Rows.SpreadEvenSaid := said
#print axioms proved
end Go.Proofs.Ytokdjfoalkmhiaa.spreadEven
