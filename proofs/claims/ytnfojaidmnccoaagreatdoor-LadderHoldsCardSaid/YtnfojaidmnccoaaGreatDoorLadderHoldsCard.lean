/- More of what it is told finds no lower a rung; whom it asks for lies between its bounds, for every ladder and any two totals of what it goes by. The library's listed variables are as the program's text lays them. -/
import Derived.Test.YtnfojaidmnccoaaGreatDoorG2
import Derived.Test.YtnfojaidmnccoaaGreatDoorG5
import Derived.Test.YtnfojaidmnccoaaGreatDoorCards
import Derived.Test.YtnfojaidmnccoaaGreatDoorTie
import Derived.Deep.DeepHandedRow
import Derived.Lay
import Derived.LaidMore
import Derived.SevenTiedAt
namespace Go.Proofs.YtnfojaidmnccoaaGreatDoor.ladderHolds
open Go.ChangeShapes Go.WideShapes Go.ChangeAt Go.RowKit Go.ChangeMaps Go.Proofs.YtnfojaidmnccoaaGreatDoor
set_option linter.unusedVariables false

theorem own : ownKnob Tryz.prog.godebug = none := by kernel_rfl
theorem laidOut : laidOutB Tryz.prog = true := by kernel_rfl

set_option maxRecDepth 100000 in
theorem contract (H : Type) (enc : TypeId × Value → H) (W : World) (base : Nat) (args : Array Value) (ds gs : List (DataW H)) (before : List MemPlace)
    (hval : ∀ (j : Nat) t v, Tryz.f5.params[j]? = some t → args[j]? = some v → Value.okWide Tryz.prog W .any base t v)
    (hW : DataW.Whole enc Tryz.prog Tryz.f5.params.toList Rows.ladderHoldsSpec.vars false W args.toList ds gs before) (hL : laidMetH Tryz.prog Rows.ladderHoldsRow.laid W) (hS : W.ShapedOpen Tryz.prog) :
    Calls Tryz.prog 5 args W fun e W' => ∃ v, e = .returned v ∧ Rows.ladderHoldsSpec.post enc Tryz.prog Tryz.f5 false true false false W args v W' := by
  have hW' := hW
  obtain ⟨p, q, hA0, hV, rfl, hfz, hnd⟩ := hW
  have hA : DataW.TrodAll enc Tryz.prog W 0 (fun _ => true) true Tryz.f5.params.toList args.toList ds p := hA0
  rw [Tryz.params5] at hA hval
  obtain ⟨v0, vs0, d0, ds0, p0, q0, hargs, rfl, rfl, h0, r0⟩ := trodAll_cons hA
  obtain ⟨v1, vs1, d1, ds1, p1, q1, hv1, rfl, rfl, h1, r1⟩ := trodAll_cons r0
  obtain ⟨v2, vs2, d2, ds2, p2, q2, hv2, rfl, rfl, h2, r2⟩ := trodAll_cons r1
  obtain ⟨rfl, rfl, rfl⟩ := trodAll_nil r2
  obtain rfl : args = #[v0, v1, v2] := Array.ext' (by rw [hargs, hv1, hv2])
  obtain ⟨rfl, rfl⟩ := trodVars_none hV
  have k0 := h0
  have lt0 : ∀ x ∈ p0, x.block < W.heap.size := by obtain ⟨m, hm⟩ := k0; exact DataW.trod_lt m _ _ _ hm
  obtain ⟨l0, w0⟩ := jba (hval 0 26 v0 (by simp) (by simp)) h0
  obtain ⟨n1, rfl, rfl, rfl, w1⟩ := open_int Tryz.underlying61 (hval 1 61 v1 (by simp) (by simp)) h1
  obtain ⟨n2, rfl, rfl, rfl, w2⟩ := open_int Tryz.underlying61 (hval 2 61 v2 (by simp) (by simp)) h2
  clear hA0
  refine (LadderHolds_walk v0 l0 n1 n2 W (Vec.qR hL hS) w0 w1 w2).mono fun e W' ⟨he, bel⟩ => ?_
  subst he
  exact ⟨_, rfl, _, _, _, [], _, [], hW', trodAll_mk1 (shut_bool Tryz.underlying4 _), (trodAll_cons_mk (Below.trod laidOut (by kernel_rfl) (of_decide_eq_true (by kernel_rfl)) k0 bel lt0) (trodAll_cons_mk (shut_int Tryz.underlying61 w1) (trodAll_cons_mk (shut_int Tryz.underlying61 w2) trodAll_mk0))), rfl, bel.frame _, fun h => by cases h⟩

theorem reads (os : Os) {H : Type} (enc : TypeId × Value → H) : ∃ places, DataW.whole enc Tryz.prog ((World.laidAll Tryz.prog os Rows.ladderHoldsRow.laid).forCall (fun _ _ => 0) ⟨#[], #[.agg #[.string ⟨#[]⟩, .slice none 0 0, .slice none 0 0, .int .i64 0, .int .i64 0], .int .u32 0, .int .u32 0], []⟩).memory Tryz.f5.params.toList Rows.ladderHoldsSpec.vars false (#[.agg #[.string ⟨#[]⟩, .slice none 0 0, .slice none 0 0, .int .i64 0, .int .i64 0], .int .u32 0, .int .u32 0] : Array Value).toList 8 = some ([.agg [.lit (.string []), .nil, .nil, .lit (.int .i64 0), .lit (.int .i64 0)], .lit (.int .u32 0), .lit (.int .u32 0)], [], places) :=
  ⟨[], by kernel_rfl⟩
theorem ok (os : Os) : Input.okWideB Tryz.prog ((World.laidAll Tryz.prog os Rows.ladderHoldsRow.laid).forCall (fun _ _ => 0) ⟨#[], #[.agg #[.string ⟨#[]⟩, .slice none 0 0, .slice none 0 0, .int .i64 0, .int .i64 0], .int .u32 0, .int .u32 0], []⟩) 5 ⟨#[], #[.agg #[.string ⟨#[]⟩, .slice none 0 0, .slice none 0 0, .int .i64 0, .int .i64 0], .int .u32 0, .int .u32 0], []⟩ = true := by kernel_rfl
theorem laid_met (os : Os) : laidMetH Tryz.prog Rows.ladderHoldsRow.laid ((World.laidAll Tryz.prog os Rows.ladderHoldsRow.laid).forCall (fun _ _ => 0) ⟨#[], #[.agg #[.string ⟨#[]⟩, .slice none 0 0, .slice none 0 0, .int .i64 0, .int .i64 0], .int .u32 0, .int .u32 0], []⟩).memory := by
  rw [MakeChecks.laidMetH_plain _ _ _ (by kernel_rfl)]
  exact laidMet_laidAll _ (by kernel_rfl) (by kernel_rfl)

set_option maxRecDepth 100000 in
theorem lifted (os : Os) (started : os.Started) (H : Type) (enc : TypeId × Value → H) (F : Stop.Interp) :
    ReturnsInHanded {} Tryz.checked os 5 .any ((OpenSpec.ofChange Rows.ladderHoldsSpec).preRow enc Tryz.prog Tryz.f5 Rows.ladderHoldsRow.domain false Rows.ladderHoldsRow.laid) (((OpenSpec.ofChange Rows.ladderHoldsSpec).at F).post enc Tryz.prog Tryz.f5 false true false false) := by
  obtain ⟨places, hx⟩ := reads os enc
  refine returnsInHanded_of_row (C := Tryz.checked) (s := OpenSpec.ofChange Rows.ladderHoldsSpec) own started (by kernel_rfl) Tryz.func5
    ⟨World.laidAll Tryz.prog os Rows.ladderHoldsRow.laid, fun _ _ => 0, ⟨#[], #[.agg #[.string ⟨#[]⟩, .slice none 0 0, .slice none 0 0, .int .i64 0, .int .i64 0], .int .u32 0, .int .u32 0], []⟩, World.laidAll_os _ _ _, World.shaped_of_ZipB (by kernel_rfl) (by kernel_rfl), (Input.okWide_of_okWideB (base := 0) (ok os)).1, (Input.okWide_of_okWideB (ok os)).2,
      OpenSpec.preRow_of_cond 8 hx (by kernel_rfl) (fun k hk => by cases hk) (by kernel_rfl) (laid_met os), by
        simp only [Assume.holds]
        exact ⟨by simp, by simp, fun _ => Modest.zero, by simp, by simp⟩⟩ ?_
  intro W base args ds gs before hval hW _ _ _ hL hS _
  exact contract H enc W base args ds gs before hval hW hL hS

theorem and_both {a b : Bool} (h : a = true) (g : b = true) : (a && b) = true := by rw [h, g]; rfl
theorem and_l {a b : Bool} (h : (a && b) = true) : a = true := by cases a <;> simp_all
theorem and_r {a b : Bool} (h : (a && b) = true) : b = true := by cases a <;> simp_all
theorem fact0 : (Rows.ladderHoldsRow.wf (OpenSpec.ofChange (OpenSpec.ofChange Rows.ladderHoldsSpec).bare) && (laidOutB Tryz.pinned.checked.prog && mapsRowed Tryz.pinned.checked.prog)) = true := by kernel_rfl
theorem fact1 : (Tryz.f5.params.all (Tryz.pinned.checked.prog.readableRec ·) && (namedTie Tryz.pinned.checked.prog Rows.ladderHoldsRow.named (OpenSpec.ofChange Rows.ladderHoldsSpec).bare.vars && ((Rows.ladderHoldsRow.stops == []) && ((Tryz.pinned.checked.prog.stops == []) && ((Rows.ladderHoldsRow.knobs == []) && (Tryz.pinned.checked.prog.stopKnobs == [])))))) = true := by kernel_rfl
theorem fact2 : (Rows.ladderHoldsRow.inPlace == Tryz.pinned.checked.prog.inPlace 5) = true := by kernel_rfl
theorem fact3 : (Rows.ladderHoldsRow.unfollowed == Tryz.pinned.checked.prog.unfollowed 5) = true := by kernel_rfl
theorem fact4 : (Rows.ladderHoldsRow.recurses == Tryz.pinned.checked.prog.recurses 5) = true := by kernel_rfl
theorem fact5 : (Rows.ladderHoldsRow.named == Tryz.pinned.checked.prog.varsNamed 5) = true := by kernel_rfl
theorem fact6 : ((Rows.ladderHoldsRow.maps == (Tryz.f5.params.toList ++ (OpenSpec.ofChange Rows.ladderHoldsSpec).bare.plain.varTypes Tryz.pinned.checked.prog).any (Tryz.pinned.checked.prog.mapsRec ·)) && ((Rows.ladderHoldsRow.ifaces == (Tryz.f5.params.toList ++ (OpenSpec.ofChange Rows.ladderHoldsSpec).bare.plain.varTypes Tryz.pinned.checked.prog).any (Tryz.pinned.checked.prog.ifacesRec ·)) && ((Rows.ladderHoldsRow.mapsOut == Tryz.pinned.checked.prog.mapsAmong Tryz.f5.resultTypes.toList) && ((Rows.ladderHoldsRow.loops == (Tryz.f5.params.toList ++ (OpenSpec.ofChange Rows.ladderHoldsSpec).bare.plain.varTypes Tryz.pinned.checked.prog).any (Tryz.pinned.checked.prog.loopsFrom ·)) && (Rows.ladderHoldsRow.wideKeys == (Tryz.f5.params.toList ++ (OpenSpec.ofChange Rows.ladderHoldsSpec).bare.plain.varTypes Tryz.pinned.checked.prog ++ Tryz.f5.resultTypes.toList).any (Tryz.pinned.checked.prog.wideKeysFrom ·)))))) = true := by kernel_rfl
theorem fact7 : ((OpenSpec.ofChange Rows.ladderHoldsSpec).bare.vars.all (Tryz.pinned.checked.prog.varReadable ·) && (Tryz.f5.resultTypes.all (fun t => Tryz.pinned.checked.prog.readableRec t && decide (t < Tryz.pinned.checked.prog.types.size)) && ((Rows.ladderHoldsRow.ifacesOut == Tryz.f5.resultTypes.toList.any (Tryz.pinned.checked.prog.ifacesRec ·)) && ((Rows.ladderHoldsRow.loopsOut == Tryz.f5.resultTypes.toList.any (Tryz.pinned.checked.prog.loopsFrom ·)) && (Rows.ladderHoldsRow.plainKeys == Tryz.pinned.checked.prog.plainKeys))))) = true := by kernel_rfl
theorem fact8 : (Rows.ladderHoldsRow.shortTexts.isNone && Tryz.pinned.checked.prog.stopsHeard) = true := by kernel_rfl
theorem fact9 : Tryz.pinned.checked.prog.mayEnter = true := by kernel_rfl
theorem fact10 : (Rows.ladderHoldsRow.lifted == Tryz.pinned.checked.prog.liftsFinal) = true := by kernel_rfl
theorem fact11 : (Tryz.pinned.checked.prog.make == some Rows.ladderHoldsRow.make) = true := by kernel_rfl
theorem fact12 : ((Rows.ladderHoldsRow.kinds == (if Rows.ladderHoldsRow.domain.isEmpty then [] else Tryz.f5.params.toList.map fun t => match Tryz.pinned.checked.prog.underlying t with | some (.int k) => some k | _ => none)) && ((Rows.ladderHoldsRow.pinned == Rows.ladderHoldsRow.pinnedBy) && ((Rows.ladderHoldsRow.veiled == (Tryz.f5.params.toList ++ (OpenSpec.ofChange Rows.ladderHoldsSpec).bare.plain.varTypes Tryz.pinned.checked.prog ++ Tryz.f5.resultTypes.toList).any (Tryz.pinned.checked.prog.veiledRec ·)) && Rows.ladderHoldsRow.veiledFits Tryz.pinned.checked.prog Tryz.f5.params.toList (Tryz.f5.params.toList ++ (OpenSpec.ofChange Rows.ladderHoldsSpec).bare.plain.varTypes Tryz.pinned.checked.prog ++ Tryz.f5.resultTypes.toList)))) = true := by kernel_rfl
set_option maxRecDepth 100000 in
theorem closed : joinedFacts Tryz.pinned.checked.prog 5 Tryz.f5 (OpenSpec.ofChange Rows.ladderHoldsSpec).bare Rows.ladderHoldsRow = true := and_both (and_both (and_both (and_both (and_both (and_both (and_both (and_both (and_both (and_both (and_both (and_both (and_both (and_both (and_both (and_both (and_both (and_both (and_both (and_both (and_both (and_both (and_both (and_both (and_both (and_both (and_both (and_both (and_both (and_both (and_both (and_l fact0) (and_l (and_r fact0))) (and_r (and_r fact0))) (and_l fact1)) (and_l (and_r fact1))) (and_l (and_r (and_r fact1)))) (and_l (and_r (and_r (and_r fact1))))) (and_l (and_r (and_r (and_r (and_r fact1)))))) (and_r (and_r (and_r (and_r (and_r fact1)))))) fact2) fact3) fact4) fact5) (and_l fact6)) (and_l (and_r fact6))) (and_l (and_r (and_r fact6)))) (and_l (and_r (and_r (and_r fact6))))) (and_r (and_r (and_r (and_r fact6))))) (and_l fact7)) (and_l (and_r fact7))) (and_l (and_r (and_r fact7)))) (and_l (and_r (and_r (and_r fact7))))) (and_r (and_r (and_r (and_r fact7))))) (and_l fact8)) (and_r fact8)) fact9) fact10) fact11) (and_l fact12)) (and_l (and_r fact12))) (and_l (and_r (and_r fact12)))) (and_r (and_r (and_r fact12)))
theorem said : Rows.LadderHoldsSaid :=
  OpenClaim.holds_of_cond 5 Tryz.f5 rfl rfl rfl rfl rfl rfl rfl ⟨rfl, rfl, rfl, rfl, rfl⟩ rfl rfl rfl rfl rfl (by kernel_rfl) Tryz.func5 closed
    (of_decide_eq_true (by kernel_rfl)) (by unfold Func.isWrapper; first | (rw [if_pos (by decide +kernel)]; kernel_rfl) | (rw [if_neg (by decide +kernel)]; exact ⟨rfl, rfl⟩))
    (fun os started H enc _ F => by rw [OpenClaim.pre_eq_preRow]; exact lifted os started H enc F)

theorem plain (f : FuncId) (fn : Func) (hf : Tryz.pinned.checked.prog.funcNamed "ballast/ballastlaw16.LadderHolds" = some f) (hfn : Tryz.pinned.checked.prog.funcs[f]? = some fn) :
    true = Tryz.pinned.checked.prog.looks [] ∧ ∀ (j : Nat) t, fn.params[j]? = some t → Tryz.pinned.checked.prog.wantsStandIn t = false := by
  obtain rfl : f = 5 := Option.some.inj ((show Tryz.prog.funcNamed "ballast/ballastlaw16.LadderHolds" = some 5 by kernel_rfl).symm.trans hf) |>.symm
  obtain rfl : fn = Tryz.f5 := (Option.some.inj (Tryz.func5.symm.trans hfn)).symm
  refine ⟨by kernel_rfl, fun j t ht => ?_⟩
  rw [Tryz.params5] at ht
  have hm : t ∈ [26, 61] := by
    have := Array.mem_of_getElem? ht
    simp at this
    first | (subst this; simp) | (rcases this with rfl | rfl <;> simp) | (rcases this with rfl | rfl | rfl <;> simp) | (rcases this with rfl | rfl | rfl | rfl <;> simp) | (rcases this with rfl | rfl | rfl | rfl | rfl <;> simp)
  have hall : ([26, 61].all fun u => !Tryz.prog.wantsStandIn u) = true := by kernel_rfl
  exact (show Tryz.prog.wantsStandIn t = false by simpa using List.all_eq_true.1 hall t hm)

/-- The card. -/
theorem proved : Rows.LadderHoldsCardSaid :=
  Claim7.holds_tied_plain_at .later [] _ _ _ _ said (fun _ h => by cases h) (by kernel_rfl) (fun _ h => by cases h) ladderHolds_row_tie rfl ⟨rfl, rfl⟩ (by kernel_rfl) rfl plain (by kernel_rfl)
#print axioms proved
end Go.Proofs.YtnfojaidmnccoaaGreatDoor.ladderHolds
