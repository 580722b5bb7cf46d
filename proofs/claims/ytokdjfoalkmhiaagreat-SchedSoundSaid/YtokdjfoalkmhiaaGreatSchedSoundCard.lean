/- Any cluster that is small and may be, packed or spread: whoever is bound, one by one, Check takes the cluster on the way and behind it; who was somewhere is where it was; what All gives is where that leads, and Next knows no more. Else nothing is compared. -/
import Derived.Test.YtokdjfoalkmhiaaGreatG1
import Derived.Test.YtokdjfoalkmhiaaGreatG4
import Derived.Test.YtokdjfoalkmhiaaGreatG16
import Derived.Deep.DeepHandedRow
import Derived.Lay
import Derived.LaidMore
namespace Go.Proofs.YtokdjfoalkmhiaaGreat.schedSound
open Go.ChangeShapes Go.WideShapes Go.ChangeAt Go.RowKit Go.ChangeMaps Go.Proofs.YtokdjfoalkmhiaaGreat
set_option linter.unusedVariables false

theorem own : ownKnob Tryz.prog.godebug = none := by kernel_rfl
theorem laidOut : laidOutB Tryz.prog = true := by kernel_rfl

set_option maxRecDepth 100000 in
theorem contract (H : Type) (enc : TypeId × Value → H) (W : World) (base : Nat) (args : Array Value) (ds gs : List (DataW H)) (before : List MemPlace)
    (hval : ∀ (j : Nat) t v, Tryz.f4.params[j]? = some t → args[j]? = some v → Value.okWide Tryz.prog W .any base t v)
    (hW : DataW.Whole enc Tryz.prog Tryz.f4.params.toList Rows.schedSoundSpec.vars false W args.toList ds gs before) (hL : laidMetH Tryz.prog Rows.schedSoundRow.laid W) (hS : W.ShapedOpen Tryz.prog) :
    Calls Tryz.prog 4 args W fun e W' => ∃ v, e = .returned v ∧ Rows.schedSoundSpec.post enc Tryz.prog Tryz.f4 false true false false W args v W' := by
  have hW' := hW
  obtain ⟨p, q, hA0, hV, rfl, hfz, hnd⟩ := hW
  have hA : DataW.TrodAll enc Tryz.prog W 0 (fun _ => true) true Tryz.f4.params.toList args.toList ds p := hA0
  rw [Tryz.params4] at hA hval
  obtain ⟨v0, vs0, d0, ds0, p0, q0, hargs, rfl, rfl, h0, r0⟩ := trodAll_cons hA
  obtain ⟨v1, vs1, d1, ds1, p1, q1, hv1, rfl, rfl, h1, r1⟩ := trodAll_cons r0
  obtain ⟨rfl, rfl, rfl⟩ := trodAll_nil r1
  obtain rfl : args = #[v0, v1] := Array.ext' (by rw [hargs, hv1])
  obtain ⟨rfl, rfl⟩ := trodVars_none hV
  have k0 := h0
  have lt0 : ∀ x ∈ p0, x.block < W.heap.size := by obtain ⟨m, hm⟩ := k0; exact DataW.trod_lt m _ _ _ hm
  obtain ⟨l0, w0⟩ := jmM (hval 0 26 v0 (by simp) (by simp)) h0
  obtain ⟨b1, rfl, rfl, rfl⟩ := open_bool Tryz.underlying4 (hval 1 4 v1 (by simp) (by simp)) h1
  clear hA0
  refine (SchedSound_walk v0 l0 b1 W w0).mono fun e W' ⟨he, bel⟩ => ?_
  subst he
  exact ⟨_, rfl, _, _, _, [], _, [], hW', trodAll_mk1 (shut_bool Tryz.underlying4 _), (trodAll_cons_mk (Below.trod laidOut (by kernel_rfl) (of_decide_eq_true (by kernel_rfl)) k0 bel lt0) (trodAll_cons_mk (shut_bool Tryz.underlying4 _) trodAll_mk0)), rfl, bel.frame _, fun h => by cases h⟩

theorem reads (os : Os) {H : Type} (enc : TypeId × Value → H) : ∃ places, DataW.whole enc Tryz.prog ((World.laidAll Tryz.prog os Rows.schedSoundRow.laid).forCall (fun _ _ => 0) ⟨#[], #[.agg #[.slice none 0 0, .slice none 0 0, .slice none 0 0], .bool false], []⟩).memory Tryz.f4.params.toList Rows.schedSoundSpec.vars false (#[.agg #[.slice none 0 0, .slice none 0 0, .slice none 0 0], .bool false] : Array Value).toList 8 = some ([.agg [.nil, .nil, .nil], .lit (.bool false)], [], places) :=
  ⟨[], by kernel_rfl⟩
theorem ok (os : Os) : Input.okWideB Tryz.prog ((World.laidAll Tryz.prog os Rows.schedSoundRow.laid).forCall (fun _ _ => 0) ⟨#[], #[.agg #[.slice none 0 0, .slice none 0 0, .slice none 0 0], .bool false], []⟩) 4 ⟨#[], #[.agg #[.slice none 0 0, .slice none 0 0, .slice none 0 0], .bool false], []⟩ = true := by kernel_rfl
theorem laid_met (os : Os) : laidMetH Tryz.prog Rows.schedSoundRow.laid ((World.laidAll Tryz.prog os Rows.schedSoundRow.laid).forCall (fun _ _ => 0) ⟨#[], #[.agg #[.slice none 0 0, .slice none 0 0, .slice none 0 0], .bool false], []⟩).memory := by
  rw [MakeChecks.laidMetH_plain _ _ _ (by kernel_rfl)]
  exact laidMet_laidAll _ (by kernel_rfl) (by kernel_rfl)

set_option maxRecDepth 100000 in
theorem lifted (os : Os) (started : os.Started) (H : Type) (enc : TypeId × Value → H) (F : Stop.Interp) :
    ReturnsInHanded {} Tryz.checked os 4 .any ((OpenSpec.ofChange Rows.schedSoundSpec).preRow enc Tryz.prog Tryz.f4 Rows.schedSoundRow.domain false Rows.schedSoundRow.laid) (((OpenSpec.ofChange Rows.schedSoundSpec).at F).post enc Tryz.prog Tryz.f4 false true false false) := by
  obtain ⟨places, hx⟩ := reads os enc
  refine returnsInHanded_of_row (C := Tryz.checked) (s := OpenSpec.ofChange Rows.schedSoundSpec) own started (by kernel_rfl) Tryz.func4
    ⟨World.laidAll Tryz.prog os Rows.schedSoundRow.laid, fun _ _ => 0, ⟨#[], #[.agg #[.slice none 0 0, .slice none 0 0, .slice none 0 0], .bool false], []⟩, World.laidAll_os _ _ _, World.shaped_of_ZipB (by kernel_rfl) (by kernel_rfl), (Input.okWide_of_okWideB (base := 0) (ok os)).1, (Input.okWide_of_okWideB (ok os)).2,
      OpenSpec.preRow_of_cond 8 hx (by kernel_rfl) (fun k hk => by cases hk) (by kernel_rfl) (laid_met os), by
        simp only [Assume.holds]
        exact ⟨by simp, by simp, fun _ => Modest.zero, by simp, by simp⟩⟩ ?_
  intro W base args ds gs before hval hW _ _ _ hL hS _
  exact contract H enc W base args ds gs before hval hW hL hS

theorem and_both {a b : Bool} (h : a = true) (g : b = true) : (a && b) = true := by rw [h, g]; rfl
theorem and_l {a b : Bool} (h : (a && b) = true) : a = true := by cases a <;> simp_all
theorem and_r {a b : Bool} (h : (a && b) = true) : b = true := by cases a <;> simp_all
theorem fact0 : (Rows.schedSoundRow.wf (OpenSpec.ofChange (OpenSpec.ofChange Rows.schedSoundSpec).bare) && (laidOutB Tryz.pinned.checked.prog && mapsRowed Tryz.pinned.checked.prog)) = true := by kernel_rfl
theorem fact1 : (Tryz.f4.params.all (Tryz.pinned.checked.prog.readableRec ·) && (namedTie Tryz.pinned.checked.prog Rows.schedSoundRow.named (OpenSpec.ofChange Rows.schedSoundSpec).bare.vars && ((Rows.schedSoundRow.stops == []) && ((Tryz.pinned.checked.prog.stops == []) && ((Rows.schedSoundRow.knobs == []) && (Tryz.pinned.checked.prog.stopKnobs == [])))))) = true := by kernel_rfl
theorem fact2 : (Rows.schedSoundRow.inPlace == Tryz.pinned.checked.prog.inPlace 4) = true := by kernel_rfl
theorem fact3 : (Rows.schedSoundRow.unfollowed == Tryz.pinned.checked.prog.unfollowed 4) = true := by kernel_rfl
theorem fact4 : (Rows.schedSoundRow.recurses == Tryz.pinned.checked.prog.recurses 4) = true := by kernel_rfl
theorem fact5 : (Rows.schedSoundRow.named == Tryz.pinned.checked.prog.varsNamed 4) = true := by kernel_rfl
theorem fact6 : ((Rows.schedSoundRow.maps == (Tryz.f4.params.toList ++ (OpenSpec.ofChange Rows.schedSoundSpec).bare.plain.varTypes Tryz.pinned.checked.prog).any (Tryz.pinned.checked.prog.mapsRec ·)) && ((Rows.schedSoundRow.ifaces == (Tryz.f4.params.toList ++ (OpenSpec.ofChange Rows.schedSoundSpec).bare.plain.varTypes Tryz.pinned.checked.prog).any (Tryz.pinned.checked.prog.ifacesRec ·)) && ((Rows.schedSoundRow.mapsOut == Tryz.pinned.checked.prog.mapsAmong Tryz.f4.resultTypes.toList) && ((Rows.schedSoundRow.loops == (Tryz.f4.params.toList ++ (OpenSpec.ofChange Rows.schedSoundSpec).bare.plain.varTypes Tryz.pinned.checked.prog).any (Tryz.pinned.checked.prog.loopsFrom ·)) && (Rows.schedSoundRow.wideKeys == (Tryz.f4.params.toList ++ (OpenSpec.ofChange Rows.schedSoundSpec).bare.plain.varTypes Tryz.pinned.checked.prog ++ Tryz.f4.resultTypes.toList).any (Tryz.pinned.checked.prog.wideKeysFrom ·)))))) = true := by kernel_rfl
theorem fact7 : ((OpenSpec.ofChange Rows.schedSoundSpec).bare.vars.all (Tryz.pinned.checked.prog.varReadable ·) && (Tryz.f4.resultTypes.all (fun t => Tryz.pinned.checked.prog.readableRec t && decide (t < Tryz.pinned.checked.prog.types.size)) && ((Rows.schedSoundRow.ifacesOut == Tryz.f4.resultTypes.toList.any (Tryz.pinned.checked.prog.ifacesRec ·)) && ((Rows.schedSoundRow.loopsOut == Tryz.f4.resultTypes.toList.any (Tryz.pinned.checked.prog.loopsFrom ·)) && (Rows.schedSoundRow.plainKeys == Tryz.pinned.checked.prog.plainKeys))))) = true := by kernel_rfl
theorem fact8 : (Rows.schedSoundRow.shortTexts.isNone && Tryz.pinned.checked.prog.stopsHeard) = true := by kernel_rfl
theorem fact9 : Tryz.pinned.checked.prog.mayEnter = true := by kernel_rfl
theorem fact10 : (Rows.schedSoundRow.lifted == Tryz.pinned.checked.prog.liftsFinal) = true := by kernel_rfl
theorem fact11 : (Tryz.pinned.checked.prog.make == some Rows.schedSoundRow.make) = true := by kernel_rfl
theorem fact12 : ((Rows.schedSoundRow.kinds == (if Rows.schedSoundRow.domain.isEmpty then [] else Tryz.f4.params.toList.map fun t => match Tryz.pinned.checked.prog.underlying t with | some (.int k) => some k | _ => none)) && ((Rows.schedSoundRow.pinned == Rows.schedSoundRow.pinnedBy) && ((Rows.schedSoundRow.veiled == (Tryz.f4.params.toList ++ (OpenSpec.ofChange Rows.schedSoundSpec).bare.plain.varTypes Tryz.pinned.checked.prog ++ Tryz.f4.resultTypes.toList).any (Tryz.pinned.checked.prog.veiledRec ·)) && Rows.schedSoundRow.veiledFits Tryz.pinned.checked.prog Tryz.f4.params.toList (Tryz.f4.params.toList ++ (OpenSpec.ofChange Rows.schedSoundSpec).bare.plain.varTypes Tryz.pinned.checked.prog ++ Tryz.f4.resultTypes.toList)))) = true := by kernel_rfl
set_option maxRecDepth 100000 in
theorem closed : joinedFacts Tryz.pinned.checked.prog 4 Tryz.f4 (OpenSpec.ofChange Rows.schedSoundSpec).bare Rows.schedSoundRow = true := and_both (and_both (and_both (and_both (and_both (and_both (and_both (and_both (and_both (and_both (and_both (and_both (and_both (and_both (and_both (and_both (and_both (and_both (and_both (and_both (and_both (and_both (and_both (and_both (and_both (and_both (and_both (and_both (and_both (and_both (and_both (and_l fact0) (and_l (and_r fact0))) (and_r (and_r fact0))) (and_l fact1)) (and_l (and_r fact1))) (and_l (and_r (and_r fact1)))) (and_l (and_r (and_r (and_r fact1))))) (and_l (and_r (and_r (and_r (and_r fact1)))))) (and_r (and_r (and_r (and_r (and_r fact1)))))) fact2) fact3) fact4) fact5) (and_l fact6)) (and_l (and_r fact6))) (and_l (and_r (and_r fact6)))) (and_l (and_r (and_r (and_r fact6))))) (and_r (and_r (and_r (and_r fact6))))) (and_l fact7)) (and_l (and_r fact7))) (and_l (and_r (and_r fact7)))) (and_l (and_r (and_r (and_r fact7))))) (and_r (and_r (and_r (and_r fact7))))) (and_l fact8)) (and_r fact8)) fact9) fact10) fact11) (and_l fact12)) (and_l (and_r fact12))) (and_l (and_r (and_r fact12)))) (and_r (and_r (and_r fact12)))
theorem said : Rows.SchedSoundSaid :=
  OpenClaim.holds_of_cond 4 Tryz.f4 rfl rfl rfl rfl rfl rfl rfl ⟨rfl, rfl, rfl, rfl, rfl⟩ rfl rfl rfl rfl rfl (by kernel_rfl) Tryz.func4 closed
    (of_decide_eq_true (by kernel_rfl)) (by unfold Func.isWrapper; first | (rw [if_pos (by decide +kernel)]; kernel_rfl) | (rw [if_neg (by decide +kernel)]; exact ⟨rfl, rfl⟩))
    (fun os started H enc _ F => by rw [OpenClaim.pre_eq_preRow]; exact lifted os started H enc F)

theorem proved : Rows.SchedSoundSaid := said
#print axioms proved
end Go.Proofs.YtokdjfoalkmhiaaGreat.schedSound
