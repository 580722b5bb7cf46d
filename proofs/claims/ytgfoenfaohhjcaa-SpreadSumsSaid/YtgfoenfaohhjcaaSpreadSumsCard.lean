/- Any cluster that is small and may be, any of its pods: each of an owner's others is counted in just one domain, those on a node without the label in none. No condition. -/
import Derived.Test.YtgfoenfaohhjcaaG0
import Derived.Test.YtgfoenfaohhjcaaG2
import Derived.Test.YtgfoenfaohhjcaaG6
import Derived.Deep.DeepHandedRow
import Derived.Lay
import Derived.LaidMore
namespace Go.Proofs.Ytgfoenfaohhjcaa.spreadSums
open Go.ChangeShapes Go.WideShapes Go.ChangeAt Go.RowKit Go.ChangeMaps Go.Proofs.Ytgfoenfaohhjcaa
set_option linter.unusedVariables false

theorem own : ownKnob Try.prog.godebug = none := by kernel_rfl
theorem laidOut : laidOutB Try.prog = true := by kernel_rfl

set_option maxRecDepth 100000 in
theorem contract (H : Type) (enc : TypeId × Value → H) (W : World) (base : Nat) (args : Array Value) (ds gs : List (DataW H)) (before : List MemPlace)
    (hval : ∀ (j : Nat) t v, Try.f5.params[j]? = some t → args[j]? = some v → Value.okWide Try.prog W .any base t v)
    (hW : DataW.Whole enc Try.prog Try.f5.params.toList Rows.spreadSumsSpec.vars false W args.toList ds gs before) (hL : laidMetH Try.prog Rows.spreadSumsRow.laid W) (hS : W.ShapedOpen Try.prog) :
    Calls Try.prog 5 args W fun e W' => ∃ v, e = .returned v ∧ Rows.spreadSumsSpec.post enc Try.prog Try.f5 false true false false W args v W' := by
  have hW' := hW
  obtain ⟨p, q, hA0, hV, rfl, hfz, hnd⟩ := hW
  have hA : DataW.TrodAll enc Try.prog W 0 (fun _ => true) true Try.f5.params.toList args.toList ds p := hA0
  rw [Try.params5] at hA hval
  obtain ⟨v0, vs0, d0, ds0, p0, q0, hargs, rfl, rfl, h0, r0⟩ := trodAll_cons hA
  obtain ⟨v1, vs1, d1, ds1, p1, q1, hv1, rfl, rfl, h1, r1⟩ := trodAll_cons r0
  obtain ⟨rfl, rfl, rfl⟩ := trodAll_nil r1
  obtain rfl : args = #[v0, v1] := Array.ext' (by rw [hargs, hv1])
  obtain ⟨rfl, rfl⟩ := trodVars_none hV
  have k0 := h0
  have lt0 : ∀ x ∈ p0, x.block < W.heap.size := by obtain ⟨m, hm⟩ := k0; exact DataW.trod_lt m _ _ _ hm
  obtain ⟨l0, w0⟩ := jcP (hval 0 26 v0 (by simp) (by simp)) h0
  obtain ⟨n1, rfl, rfl, rfl, w1⟩ := open_int Try.underlying5 (hval 1 5 v1 (by simp) (by simp)) h1
  clear hA0
  refine (SpreadSums_walk v0 l0 n1 W w0 w1).mono fun e W' ⟨he, bel⟩ => ?_
  subst he
  exact ⟨_, rfl, _, _, _, [], _, [], hW', trodAll_mk1 (shut_bool Try.underlying4 _), (trodAll_cons_mk (Below.trod laidOut (by kernel_rfl) (of_decide_eq_true (by kernel_rfl)) k0 bel lt0) (trodAll_cons_mk (shut_int Try.underlying5 w1) trodAll_mk0)), rfl, bel.frame _, fun h => by cases h⟩

theorem reads (os : Os) {H : Type} (enc : TypeId × Value → H) : ∃ places, DataW.whole enc Try.prog ((World.laidAll Try.prog os Rows.spreadSumsRow.laid).forCall (fun _ _ => 0) ⟨#[], #[.agg #[.slice none 0 0, .slice none 0 0, .slice none 0 0], .int .u8 0], []⟩).memory Try.f5.params.toList Rows.spreadSumsSpec.vars false (#[.agg #[.slice none 0 0, .slice none 0 0, .slice none 0 0], .int .u8 0] : Array Value).toList 8 = some ([.agg [.nil, .nil, .nil], .lit (.int .u8 0)], [], places) :=
  ⟨[], by kernel_rfl⟩
theorem ok (os : Os) : Input.okWideB Try.prog ((World.laidAll Try.prog os Rows.spreadSumsRow.laid).forCall (fun _ _ => 0) ⟨#[], #[.agg #[.slice none 0 0, .slice none 0 0, .slice none 0 0], .int .u8 0], []⟩) 5 ⟨#[], #[.agg #[.slice none 0 0, .slice none 0 0, .slice none 0 0], .int .u8 0], []⟩ = true := by kernel_rfl
theorem laid_met (os : Os) : laidMetH Try.prog Rows.spreadSumsRow.laid ((World.laidAll Try.prog os Rows.spreadSumsRow.laid).forCall (fun _ _ => 0) ⟨#[], #[.agg #[.slice none 0 0, .slice none 0 0, .slice none 0 0], .int .u8 0], []⟩).memory := by
  rw [MakeChecks.laidMetH_plain _ _ _ (by kernel_rfl)]
  exact laidMet_laidAll _ (by kernel_rfl) (by kernel_rfl)

set_option maxRecDepth 100000 in
theorem lifted (os : Os) (started : os.Started) (H : Type) (enc : TypeId × Value → H) (F : Stop.Interp) :
    ReturnsInHanded {} Try.checked os 5 .any ((OpenSpec.ofChange Rows.spreadSumsSpec).preRow enc Try.prog Try.f5 Rows.spreadSumsRow.domain false Rows.spreadSumsRow.laid) (((OpenSpec.ofChange Rows.spreadSumsSpec).at F).post enc Try.prog Try.f5 false true false false) := by
  obtain ⟨places, hx⟩ := reads os enc
  refine returnsInHanded_of_row (C := Try.checked) (s := OpenSpec.ofChange Rows.spreadSumsSpec) own started (by kernel_rfl) Try.func5
    ⟨World.laidAll Try.prog os Rows.spreadSumsRow.laid, fun _ _ => 0, ⟨#[], #[.agg #[.slice none 0 0, .slice none 0 0, .slice none 0 0], .int .u8 0], []⟩, World.laidAll_os _ _ _, World.shaped_of_ZipB (by kernel_rfl) (by kernel_rfl), (Input.okWide_of_okWideB (base := 0) (ok os)).1, (Input.okWide_of_okWideB (ok os)).2,
      OpenSpec.preRow_of_cond 8 hx (by kernel_rfl) (fun k hk => by cases hk) (by kernel_rfl) (laid_met os), by
        simp only [Assume.holds]
        exact ⟨by simp, by simp, fun _ => Modest.zero, by simp, by simp⟩⟩ ?_
  intro W base args ds gs before hval hW _ _ _ hL hS _
  exact contract H enc W base args ds gs before hval hW hL hS

theorem and_both {a b : Bool} (h : a = true) (g : b = true) : (a && b) = true := by rw [h, g]; rfl
theorem and_l {a b : Bool} (h : (a && b) = true) : a = true := by cases a <;> simp_all
theorem and_r {a b : Bool} (h : (a && b) = true) : b = true := by cases a <;> simp_all
theorem fact0 : (Rows.spreadSumsRow.wf (OpenSpec.ofChange (OpenSpec.ofChange Rows.spreadSumsSpec).bare) && (laidOutB Try.pinned.checked.prog && mapsRowed Try.pinned.checked.prog)) = true := by kernel_rfl
theorem fact1 : (Try.f5.params.all (Try.pinned.checked.prog.readableRec ·) && (namedTie Try.pinned.checked.prog Rows.spreadSumsRow.named (OpenSpec.ofChange Rows.spreadSumsSpec).bare.vars && ((Rows.spreadSumsRow.stops == []) && ((Try.pinned.checked.prog.stops == []) && ((Rows.spreadSumsRow.knobs == []) && (Try.pinned.checked.prog.stopKnobs == [])))))) = true := by kernel_rfl
theorem fact2 : (Rows.spreadSumsRow.inPlace == Try.pinned.checked.prog.inPlace 5) = true := by kernel_rfl
theorem fact3 : (Rows.spreadSumsRow.unfollowed == Try.pinned.checked.prog.unfollowed 5) = true := by kernel_rfl
theorem fact4 : (Rows.spreadSumsRow.recurses == Try.pinned.checked.prog.recurses 5) = true := by kernel_rfl
theorem fact5 : (Rows.spreadSumsRow.named == Try.pinned.checked.prog.varsNamed 5) = true := by kernel_rfl
theorem fact6 : ((Rows.spreadSumsRow.maps == (Try.f5.params.toList ++ (OpenSpec.ofChange Rows.spreadSumsSpec).bare.plain.varTypes Try.pinned.checked.prog).any (Try.pinned.checked.prog.mapsRec ·)) && ((Rows.spreadSumsRow.ifaces == (Try.f5.params.toList ++ (OpenSpec.ofChange Rows.spreadSumsSpec).bare.plain.varTypes Try.pinned.checked.prog).any (Try.pinned.checked.prog.ifacesRec ·)) && ((Rows.spreadSumsRow.mapsOut == Try.pinned.checked.prog.mapsAmong Try.f5.resultTypes.toList) && ((Rows.spreadSumsRow.loops == (Try.f5.params.toList ++ (OpenSpec.ofChange Rows.spreadSumsSpec).bare.plain.varTypes Try.pinned.checked.prog).any (Try.pinned.checked.prog.loopsFrom ·)) && (Rows.spreadSumsRow.wideKeys == (Try.f5.params.toList ++ (OpenSpec.ofChange Rows.spreadSumsSpec).bare.plain.varTypes Try.pinned.checked.prog ++ Try.f5.resultTypes.toList).any (Try.pinned.checked.prog.wideKeysFrom ·)))))) = true := by kernel_rfl
theorem fact7 : ((OpenSpec.ofChange Rows.spreadSumsSpec).bare.vars.all (Try.pinned.checked.prog.varReadable ·) && (Try.f5.resultTypes.all (fun t => Try.pinned.checked.prog.readableRec t && decide (t < Try.pinned.checked.prog.types.size)) && ((Rows.spreadSumsRow.ifacesOut == Try.f5.resultTypes.toList.any (Try.pinned.checked.prog.ifacesRec ·)) && ((Rows.spreadSumsRow.loopsOut == Try.f5.resultTypes.toList.any (Try.pinned.checked.prog.loopsFrom ·)) && (Rows.spreadSumsRow.plainKeys == Try.pinned.checked.prog.plainKeys))))) = true := by kernel_rfl
theorem fact8 : (Rows.spreadSumsRow.shortTexts.isNone && Try.pinned.checked.prog.stopsHeard) = true := by kernel_rfl
theorem fact9 : Try.pinned.checked.prog.mayEnter = true := by kernel_rfl
theorem fact10 : (Rows.spreadSumsRow.lifted == Try.pinned.checked.prog.liftsFinal) = true := by kernel_rfl
theorem fact11 : (Try.pinned.checked.prog.make == some Rows.spreadSumsRow.make) = true := by kernel_rfl
theorem fact12 : ((Rows.spreadSumsRow.kinds == (if Rows.spreadSumsRow.domain.isEmpty then [] else Try.f5.params.toList.map fun t => match Try.pinned.checked.prog.underlying t with | some (.int k) => some k | _ => none)) && ((Rows.spreadSumsRow.pinned == Rows.spreadSumsRow.pinnedBy) && ((Rows.spreadSumsRow.veiled == (Try.f5.params.toList ++ (OpenSpec.ofChange Rows.spreadSumsSpec).bare.plain.varTypes Try.pinned.checked.prog ++ Try.f5.resultTypes.toList).any (Try.pinned.checked.prog.veiledRec ·)) && Rows.spreadSumsRow.veiledFits Try.pinned.checked.prog Try.f5.params.toList (Try.f5.params.toList ++ (OpenSpec.ofChange Rows.spreadSumsSpec).bare.plain.varTypes Try.pinned.checked.prog ++ Try.f5.resultTypes.toList)))) = true := by kernel_rfl
set_option maxRecDepth 100000 in
theorem closed : joinedFacts Try.pinned.checked.prog 5 Try.f5 (OpenSpec.ofChange Rows.spreadSumsSpec).bare Rows.spreadSumsRow = true := and_both (and_both (and_both (and_both (and_both (and_both (and_both (and_both (and_both (and_both (and_both (and_both (and_both (and_both (and_both (and_both (and_both (and_both (and_both (and_both (and_both (and_both (and_both (and_both (and_both (and_both (and_both (and_both (and_both (and_both (and_both (and_l fact0) (and_l (and_r fact0))) (and_r (and_r fact0))) (and_l fact1)) (and_l (and_r fact1))) (and_l (and_r (and_r fact1)))) (and_l (and_r (and_r (and_r fact1))))) (and_l (and_r (and_r (and_r (and_r fact1)))))) (and_r (and_r (and_r (and_r (and_r fact1)))))) fact2) fact3) fact4) fact5) (and_l fact6)) (and_l (and_r fact6))) (and_l (and_r (and_r fact6)))) (and_l (and_r (and_r (and_r fact6))))) (and_r (and_r (and_r (and_r fact6))))) (and_l fact7)) (and_l (and_r fact7))) (and_l (and_r (and_r fact7)))) (and_l (and_r (and_r (and_r fact7))))) (and_r (and_r (and_r (and_r fact7))))) (and_l fact8)) (and_r fact8)) fact9) fact10) fact11) (and_l fact12)) (and_l (and_r fact12))) (and_l (and_r (and_r fact12)))) (and_r (and_r (and_r fact12)))
theorem said : Rows.SpreadSumsSaid :=
  OpenClaim.holds_of_cond 5 Try.f5 rfl rfl rfl rfl rfl rfl rfl ⟨rfl, rfl, rfl, rfl, rfl⟩ rfl rfl rfl rfl rfl (by kernel_rfl) Try.func5 closed
    (of_decide_eq_true (by kernel_rfl)) (by unfold Func.isWrapper; first | (rw [if_pos (by decide +kernel)]; kernel_rfl) | (rw [if_neg (by decide +kernel)]; exact ⟨rfl, rfl⟩))
    (fun os started H enc _ F => by rw [OpenClaim.pre_eq_preRow]; exact lifted os started H enc F)

theorem proved : Rows.SpreadSumsSaid := said
#print axioms proved
end Go.Proofs.Ytgfoenfaohhjcaa.spreadSums
