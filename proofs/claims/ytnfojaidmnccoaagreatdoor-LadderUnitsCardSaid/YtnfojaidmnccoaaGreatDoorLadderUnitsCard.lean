/- A thousand parts of the unit is the unit; no part is more than the whole; so many as are told are clamped between the bounds, for every unit, bounds, count and part. The library's listed variables are as the program's text lays them. -/
import Derived.Test.YtnfojaidmnccoaaGreatDoorG2
import Derived.Test.YtnfojaidmnccoaaGreatDoorG5
import Derived.Test.YtnfojaidmnccoaaGreatDoorCards
import Derived.Test.YtnfojaidmnccoaaGreatDoorTie
import Derived.Deep.DeepHandedRow
import Derived.Lay
import Derived.LaidMore
import Derived.SevenTiedAt
namespace Go.Proofs.YtnfojaidmnccoaaGreatDoor.ladderUnits
open Go.ChangeShapes Go.WideShapes Go.ChangeAt Go.RowKit Go.ChangeMaps Go.Proofs.YtnfojaidmnccoaaGreatDoor
set_option linter.unusedVariables false

theorem own : ownKnob Tryz.prog.godebug = none := by kernel_rfl
theorem laidOut : laidOutB Tryz.prog = true := by kernel_rfl

set_option maxRecDepth 100000 in
theorem contract (H : Type) (enc : TypeId × Value → H) (W : World) (base : Nat) (args : Array Value) (ds gs : List (DataW H)) (before : List MemPlace)
    (hval : ∀ (j : Nat) t v, Tryz.f7.params[j]? = some t → args[j]? = some v → Value.okWide Tryz.prog W .any base t v)
    (hW : DataW.Whole enc Tryz.prog Tryz.f7.params.toList Rows.ladderUnitsSpec.vars false W args.toList ds gs before) (hL : laidMetH Tryz.prog Rows.ladderUnitsRow.laid W) (hS : W.ShapedOpen Tryz.prog) :
    Calls Tryz.prog 7 args W fun e W' => ∃ v, e = .returned v ∧ Rows.ladderUnitsSpec.post enc Tryz.prog Tryz.f7 false true false false W args v W' := by
  have hW' := hW
  obtain ⟨p, q, hA0, hV, rfl, hfz, hnd⟩ := hW
  have hA : DataW.TrodAll enc Tryz.prog W 0 (fun _ => true) true Tryz.f7.params.toList args.toList ds p := hA0
  rw [Tryz.params7] at hA hval
  obtain ⟨v0, vs0, d0, ds0, p0, q0, hargs, rfl, rfl, h0, r0⟩ := trodAll_cons hA
  obtain ⟨v1, vs1, d1, ds1, p1, q1, hv1, rfl, rfl, h1, r1⟩ := trodAll_cons r0
  obtain ⟨v2, vs2, d2, ds2, p2, q2, hv2, rfl, rfl, h2, r2⟩ := trodAll_cons r1
  obtain ⟨v3, vs3, d3, ds3, p3, q3, hv3, rfl, rfl, h3, r3⟩ := trodAll_cons r2
  obtain ⟨v4, vs4, d4, ds4, p4, q4, hv4, rfl, rfl, h4, r4⟩ := trodAll_cons r3
  obtain ⟨rfl, rfl, rfl⟩ := trodAll_nil r4
  obtain rfl : args = #[v0, v1, v2, v3, v4] := Array.ext' (by rw [hargs, hv1, hv2, hv3, hv4])
  obtain ⟨rfl, rfl⟩ := trodVars_none hV
  have k0 := h0
  have lt0 : ∀ x ∈ p0, x.block < W.heap.size := by obtain ⟨m, hm⟩ := k0; exact DataW.trod_lt m _ _ _ hm
  obtain ⟨a0, len0, cap0, e0⟩ := okWide_slice Tryz.underlying23 (hval 0 23 v0 (by simp) (by simp))
  obtain ⟨l0, w0⟩ : ∃ l, Vec.Reads W v0 l := by
    have hc : v0.cells.toList = [v0] := by rw [e0]; simp [Value.cells]
    obtain ⟨fuel, hf⟩ := h0
    rw [hc] at hf
    exact Vec.ZZ hf
  obtain ⟨n1, rfl, rfl, rfl, w1⟩ := open_int Tryz.underlying5 (hval 1 5 v1 (by simp) (by simp)) h1
  obtain ⟨n2, rfl, rfl, rfl, w2⟩ := open_int Tryz.underlying5 (hval 2 5 v2 (by simp) (by simp)) h2
  obtain ⟨n3, rfl, rfl, rfl, w3⟩ := open_int Tryz.underlying5 (hval 3 5 v3 (by simp) (by simp)) h3
  obtain ⟨n4, rfl, rfl, rfl, w4⟩ := open_int Tryz.underlying66 (hval 4 66 v4 (by simp) (by simp)) h4
  clear hA0
  refine (LadderUnits_walk v0 l0 n1 n2 n3 n4 W (Vec.ja0 hL hS) w0 w1 w2 w3 w4).mono fun e W' ⟨he, bel⟩ => ?_
  subst he
  exact ⟨_, rfl, _, _, _, [], _, [], hW', trodAll_mk1 (shut_bool Tryz.underlying4 _), (trodAll_cons_mk (Below.trod laidOut (by kernel_rfl) (of_decide_eq_true (by kernel_rfl)) k0 bel lt0) (trodAll_cons_mk (shut_int Tryz.underlying5 w1) (trodAll_cons_mk (shut_int Tryz.underlying5 w2) (trodAll_cons_mk (shut_int Tryz.underlying5 w3) (trodAll_cons_mk (shut_int Tryz.underlying66 w4) trodAll_mk0))))), rfl, bel.frame _, fun h => by cases h⟩

theorem reads (os : Os) {H : Type} (enc : TypeId × Value → H) : ∃ places, DataW.whole enc Tryz.prog ((World.laidAll Tryz.prog os Rows.ladderUnitsRow.laid).forCall (fun _ _ => 0) ⟨#[], #[.slice none 0 0, .int .u8 0, .int .u8 0, .int .u8 0, .int .u16 0], []⟩).memory Tryz.f7.params.toList Rows.ladderUnitsSpec.vars false (#[.slice none 0 0, .int .u8 0, .int .u8 0, .int .u8 0, .int .u16 0] : Array Value).toList 8 = some ([.nil, .lit (.int .u8 0), .lit (.int .u8 0), .lit (.int .u8 0), .lit (.int .u16 0)], [], places) :=
  ⟨[], by kernel_rfl⟩
theorem ok (os : Os) : Input.okWideB Tryz.prog ((World.laidAll Tryz.prog os Rows.ladderUnitsRow.laid).forCall (fun _ _ => 0) ⟨#[], #[.slice none 0 0, .int .u8 0, .int .u8 0, .int .u8 0, .int .u16 0], []⟩) 7 ⟨#[], #[.slice none 0 0, .int .u8 0, .int .u8 0, .int .u8 0, .int .u16 0], []⟩ = true := by kernel_rfl
theorem laid_met (os : Os) : laidMetH Tryz.prog Rows.ladderUnitsRow.laid ((World.laidAll Tryz.prog os Rows.ladderUnitsRow.laid).forCall (fun _ _ => 0) ⟨#[], #[.slice none 0 0, .int .u8 0, .int .u8 0, .int .u8 0, .int .u16 0], []⟩).memory := by
  rw [MakeChecks.laidMetH_plain _ _ _ (by kernel_rfl)]
  exact laidMet_laidAll _ (by kernel_rfl) (by kernel_rfl)

set_option maxRecDepth 100000 in
theorem lifted (os : Os) (started : os.Started) (H : Type) (enc : TypeId × Value → H) (F : Stop.Interp) :
    ReturnsInHanded {} Tryz.checked os 7 .any ((OpenSpec.ofChange Rows.ladderUnitsSpec).preRow enc Tryz.prog Tryz.f7 Rows.ladderUnitsRow.domain false Rows.ladderUnitsRow.laid) (((OpenSpec.ofChange Rows.ladderUnitsSpec).at F).post enc Tryz.prog Tryz.f7 false true false false) := by
  obtain ⟨places, hx⟩ := reads os enc
  refine returnsInHanded_of_row (C := Tryz.checked) (s := OpenSpec.ofChange Rows.ladderUnitsSpec) own started (by kernel_rfl) Tryz.func7
    ⟨World.laidAll Tryz.prog os Rows.ladderUnitsRow.laid, fun _ _ => 0, ⟨#[], #[.slice none 0 0, .int .u8 0, .int .u8 0, .int .u8 0, .int .u16 0], []⟩, World.laidAll_os _ _ _, World.shaped_of_ZipB (by kernel_rfl) (by kernel_rfl), (Input.okWide_of_okWideB (base := 0) (ok os)).1, (Input.okWide_of_okWideB (ok os)).2,
      OpenSpec.preRow_of_cond 8 hx (by kernel_rfl) (fun k hk => by cases hk) (by kernel_rfl) (laid_met os), by
        simp only [Assume.holds]
        exact ⟨by simp, by simp, fun _ => Modest.zero, by simp, by simp⟩⟩ ?_
  intro W base args ds gs before hval hW _ _ _ hL hS _
  exact contract H enc W base args ds gs before hval hW hL hS

theorem and_both {a b : Bool} (h : a = true) (g : b = true) : (a && b) = true := by rw [h, g]; rfl
theorem and_l {a b : Bool} (h : (a && b) = true) : a = true := by cases a <;> simp_all
theorem and_r {a b : Bool} (h : (a && b) = true) : b = true := by cases a <;> simp_all
theorem fact0 : (Rows.ladderUnitsRow.wf (OpenSpec.ofChange (OpenSpec.ofChange Rows.ladderUnitsSpec).bare) && (laidOutB Tryz.pinned.checked.prog && mapsRowed Tryz.pinned.checked.prog)) = true := by kernel_rfl
theorem fact1 : (Tryz.f7.params.all (Tryz.pinned.checked.prog.readableRec ·) && (namedTie Tryz.pinned.checked.prog Rows.ladderUnitsRow.named (OpenSpec.ofChange Rows.ladderUnitsSpec).bare.vars && ((Rows.ladderUnitsRow.stops == []) && ((Tryz.pinned.checked.prog.stops == []) && ((Rows.ladderUnitsRow.knobs == []) && (Tryz.pinned.checked.prog.stopKnobs == [])))))) = true := by kernel_rfl
theorem fact2 : (Rows.ladderUnitsRow.inPlace == Tryz.pinned.checked.prog.inPlace 7) = true := by kernel_rfl
theorem fact3 : (Rows.ladderUnitsRow.unfollowed == Tryz.pinned.checked.prog.unfollowed 7) = true := by kernel_rfl
theorem fact4 : (Rows.ladderUnitsRow.recurses == Tryz.pinned.checked.prog.recurses 7) = true := by kernel_rfl
theorem fact5 : (Rows.ladderUnitsRow.named == Tryz.pinned.checked.prog.varsNamed 7) = true := by kernel_rfl
theorem fact6 : ((Rows.ladderUnitsRow.maps == (Tryz.f7.params.toList ++ (OpenSpec.ofChange Rows.ladderUnitsSpec).bare.plain.varTypes Tryz.pinned.checked.prog).any (Tryz.pinned.checked.prog.mapsRec ·)) && ((Rows.ladderUnitsRow.ifaces == (Tryz.f7.params.toList ++ (OpenSpec.ofChange Rows.ladderUnitsSpec).bare.plain.varTypes Tryz.pinned.checked.prog).any (Tryz.pinned.checked.prog.ifacesRec ·)) && ((Rows.ladderUnitsRow.mapsOut == Tryz.pinned.checked.prog.mapsAmong Tryz.f7.resultTypes.toList) && ((Rows.ladderUnitsRow.loops == (Tryz.f7.params.toList ++ (OpenSpec.ofChange Rows.ladderUnitsSpec).bare.plain.varTypes Tryz.pinned.checked.prog).any (Tryz.pinned.checked.prog.loopsFrom ·)) && (Rows.ladderUnitsRow.wideKeys == (Tryz.f7.params.toList ++ (OpenSpec.ofChange Rows.ladderUnitsSpec).bare.plain.varTypes Tryz.pinned.checked.prog ++ Tryz.f7.resultTypes.toList).any (Tryz.pinned.checked.prog.wideKeysFrom ·)))))) = true := by kernel_rfl
theorem fact7 : ((OpenSpec.ofChange Rows.ladderUnitsSpec).bare.vars.all (Tryz.pinned.checked.prog.varReadable ·) && (Tryz.f7.resultTypes.all (fun t => Tryz.pinned.checked.prog.readableRec t && decide (t < Tryz.pinned.checked.prog.types.size)) && ((Rows.ladderUnitsRow.ifacesOut == Tryz.f7.resultTypes.toList.any (Tryz.pinned.checked.prog.ifacesRec ·)) && ((Rows.ladderUnitsRow.loopsOut == Tryz.f7.resultTypes.toList.any (Tryz.pinned.checked.prog.loopsFrom ·)) && (Rows.ladderUnitsRow.plainKeys == Tryz.pinned.checked.prog.plainKeys))))) = true := by kernel_rfl
theorem fact8 : (Rows.ladderUnitsRow.shortTexts.isNone && Tryz.pinned.checked.prog.stopsHeard) = true := by kernel_rfl
theorem fact9 : Tryz.pinned.checked.prog.mayEnter = true := by kernel_rfl
theorem fact10 : (Rows.ladderUnitsRow.lifted == Tryz.pinned.checked.prog.liftsFinal) = true := by kernel_rfl
theorem fact11 : (Tryz.pinned.checked.prog.make == some Rows.ladderUnitsRow.make) = true := by kernel_rfl
theorem fact12 : ((Rows.ladderUnitsRow.kinds == (if Rows.ladderUnitsRow.domain.isEmpty then [] else Tryz.f7.params.toList.map fun t => match Tryz.pinned.checked.prog.underlying t with | some (.int k) => some k | _ => none)) && ((Rows.ladderUnitsRow.pinned == Rows.ladderUnitsRow.pinnedBy) && ((Rows.ladderUnitsRow.veiled == (Tryz.f7.params.toList ++ (OpenSpec.ofChange Rows.ladderUnitsSpec).bare.plain.varTypes Tryz.pinned.checked.prog ++ Tryz.f7.resultTypes.toList).any (Tryz.pinned.checked.prog.veiledRec ·)) && Rows.ladderUnitsRow.veiledFits Tryz.pinned.checked.prog Tryz.f7.params.toList (Tryz.f7.params.toList ++ (OpenSpec.ofChange Rows.ladderUnitsSpec).bare.plain.varTypes Tryz.pinned.checked.prog ++ Tryz.f7.resultTypes.toList)))) = true := by kernel_rfl
set_option maxRecDepth 100000 in
theorem closed : joinedFacts Tryz.pinned.checked.prog 7 Tryz.f7 (OpenSpec.ofChange Rows.ladderUnitsSpec).bare Rows.ladderUnitsRow = true := and_both (and_both (and_both (and_both (and_both (and_both (and_both (and_both (and_both (and_both (and_both (and_both (and_both (and_both (and_both (and_both (and_both (and_both (and_both (and_both (and_both (and_both (and_both (and_both (and_both (and_both (and_both (and_both (and_both (and_both (and_both (and_l fact0) (and_l (and_r fact0))) (and_r (and_r fact0))) (and_l fact1)) (and_l (and_r fact1))) (and_l (and_r (and_r fact1)))) (and_l (and_r (and_r (and_r fact1))))) (and_l (and_r (and_r (and_r (and_r fact1)))))) (and_r (and_r (and_r (and_r (and_r fact1)))))) fact2) fact3) fact4) fact5) (and_l fact6)) (and_l (and_r fact6))) (and_l (and_r (and_r fact6)))) (and_l (and_r (and_r (and_r fact6))))) (and_r (and_r (and_r (and_r fact6))))) (and_l fact7)) (and_l (and_r fact7))) (and_l (and_r (and_r fact7)))) (and_l (and_r (and_r (and_r fact7))))) (and_r (and_r (and_r (and_r fact7))))) (and_l fact8)) (and_r fact8)) fact9) fact10) fact11) (and_l fact12)) (and_l (and_r fact12))) (and_l (and_r (and_r fact12)))) (and_r (and_r (and_r fact12)))
theorem said : Rows.LadderUnitsSaid :=
  OpenClaim.holds_of_cond 7 Tryz.f7 rfl rfl rfl rfl rfl rfl rfl ⟨rfl, rfl, rfl, rfl, rfl⟩ rfl rfl rfl rfl rfl (by kernel_rfl) Tryz.func7 closed
    (of_decide_eq_true (by kernel_rfl)) (by unfold Func.isWrapper; first | (rw [if_pos (by decide +kernel)]; kernel_rfl) | (rw [if_neg (by decide +kernel)]; exact ⟨rfl, rfl⟩))
    (fun os started H enc _ F => by rw [OpenClaim.pre_eq_preRow]; exact lifted os started H enc F)

theorem plain (f : FuncId) (fn : Func) (hf : Tryz.pinned.checked.prog.funcNamed "ballast/ballastlaw16.LadderUnits" = some f) (hfn : Tryz.pinned.checked.prog.funcs[f]? = some fn) :
    true = Tryz.pinned.checked.prog.looks [] ∧ ∀ (j : Nat) t, fn.params[j]? = some t → Tryz.pinned.checked.prog.wantsStandIn t = false := by
  obtain rfl : f = 7 := Option.some.inj ((show Tryz.prog.funcNamed "ballast/ballastlaw16.LadderUnits" = some 7 by kernel_rfl).symm.trans hf) |>.symm
  obtain rfl : fn = Tryz.f7 := (Option.some.inj (Tryz.func7.symm.trans hfn)).symm
  refine ⟨by kernel_rfl, fun j t ht => ?_⟩
  rw [Tryz.params7] at ht
  have hm : t ∈ [23, 5, 66] := by
    have := Array.mem_of_getElem? ht
    simp at this
    first | (subst this; simp) | (rcases this with rfl | rfl <;> simp) | (rcases this with rfl | rfl | rfl <;> simp) | (rcases this with rfl | rfl | rfl | rfl <;> simp) | (rcases this with rfl | rfl | rfl | rfl | rfl <;> simp)
  have hall : ([23, 5, 66].all fun u => !Tryz.prog.wantsStandIn u) = true := by kernel_rfl
  exact (show Tryz.prog.wantsStandIn t = false by simpa using List.all_eq_true.1 hall t hm)

/-- The card. -/
theorem proved : Rows.LadderUnitsCardSaid :=
  Claim7.holds_tied_plain_at .later [] _ _ _ _ said (fun _ h => by cases h) (by kernel_rfl) (fun _ h => by cases h) ladderUnits_row_tie rfl ⟨rfl, rfl⟩ (by kernel_rfl) rfl plain (by kernel_rfl)
#print axioms proved
end Go.Proofs.YtnfojaidmnccoaaGreatDoor.ladderUnits
