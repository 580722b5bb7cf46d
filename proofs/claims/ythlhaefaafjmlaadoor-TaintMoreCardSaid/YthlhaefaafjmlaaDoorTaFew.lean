/- Whether taints, tolerations are short. -/
import Derived.Test.YthlhaefaafjmlaaDoorTaBase
namespace Go.Proofs.YthlhaefaafjmlaaDoor
open Go.RowKit
set_option linter.unusedVariables false

def few3 (x : NT) : Bool := decide (x.1.size ≤ 50) && decide (x.2.1.size ≤ 50)
def fewN (l : NL) : Bool := decide (l.length ≤ 20) && l.all few3
set_option maxHeartbeats 800000 in
theorem fewA_any (a : Option Addr) (len cap : Nat) (l : NL) (w : World) (hr : RowAt TaLay w a len l) :
    Calls Tryd.prog 9 #[.slice a len cap] w fun e w' => e = .returned (.bool (fewN l)) ∧ w = w' := by
  have hl := hr.1
  have hm := hr.2.1
  unfold maxLen at hm
  by_cases h20 : len ≤ 20
  · have HV := Lib.hid (show fewN l = l.all few3 by unfold fewN; rw [decide_eq_true (by omega)]; rfl)
    rcases hr.form with h0 | ⟨b, off, rfl⟩
    · subst h0
      have HE := Lib.hid (show fewN l = true by rw [HV.out, List.eq_nil_of_length_eq_zero hl]; rfl)
      clear hr hl
      go_enter Tryd.func9, Tryd.ntmps9
      go_wp2
      refine wp_loop_rounds 1 ?_
      rw [rounds_succ]
      go_wp2
      go_ret
      exact ⟨ret_bool HE.out.symm, rfl⟩
    · have HR := Lib.hid hr
      have HL := Lib.hid hl
      clear hr hl
      go_enter Tryd.func9, Tryd.ntmps9
      go_wp2
      go_loop [3] (fun i => ∃ k : Nat, k ≤ len ∧ i = .int .i64 k ∧ (l.drop k).all few3 = l.all few3) (fun i => len - (intOf i).toNat)
      case atStart => exact ⟨0, Nat.zero_le _, rfl, rfl⟩
      case round =>
        obtain ⟨k, hk, rfl, hrest⟩ := hrel
        by_cases hlt : k < len
        · obtain ⟨x, y, m, hx, hd, hb, hz, hz2, c1, c2, c3⟩ := HR.out.tri hlt
          have HT := Lib.hid (hrest.symm.trans ((congrArg (fun z => z.all few3) hd).trans (all_cons _ _ _)))
          clear hrest hx hd
          unfold maxLen at hz hz2
          by_cases e : x.size ≤ 50
          · by_cases e2 : y.size ≤ 50
            · have E := Lib.hid (show few3 (x, y, m) = true by unfold few3; rw [decide_eq_true e, decide_eq_true e2]; rfl)
              go_wp2
              go_round
              case rel => exact ⟨k + 1, by omega, by go_num, (HT.out.trans (by rw [E.out]; exact Bool.true_and _)).symm⟩
              case measure => simp [intOf]; omega
            · have E := Lib.hid (show few3 (x, y, m) = false by unfold few3; rw [decide_eq_false e2]; exact Bool.and_false _)
              have e2' : 50 < y.size := by omega
              clear e2
              go_wp2
              go_ret
              exact ⟨ret_bool (HV.out.trans (HT.out.trans (by rw [E.out]; exact Bool.false_and _))).symm, rfl⟩
          · have E := Lib.hid (show few3 (x, y, m) = false by unfold few3; rw [decide_eq_false e]; exact Bool.false_and _)
            have e' : 50 < x.size := by omega
            clear e
            go_wp2
            go_ret
            exact ⟨ret_bool (HV.out.trans (HT.out.trans (by rw [E.out]; exact Bool.false_and _))).symm, rfl⟩
        · have HS := Lib.hid ((HV.out.trans hrest.symm).trans (congrArg (fun z => z.all few3) (drop_end (by rw [HL.out]; exact hlt))))
          clear hrest
          go_wp2
          go_ret
          exact ⟨ret_bool (HS.out.trans rfl).symm, rfl⟩
  · have HV := Lib.hid (show fewN l = false by unfold fewN; rw [decide_eq_false (by omega)]; rfl)
    have h9 : 20 < len := by omega
    clear h20 hr hl
    go_enter Tryd.func9, Tryd.ntmps9
    go_wp2
    go_ret
    exact ⟨ret_bool HV.out.symm, rfl⟩

set_option maxHeartbeats 800000 in
theorem fewO_any (a : Option Addr) (len cap : Nat) (l : NL) (w : World) (hr : RowAt TaLay w a len l) :
    Calls Tryd.prog 10 #[.slice a len cap] w fun e w' => e = .returned (.bool (fewN l)) ∧ w = w' := by
  have hl := hr.1
  have hm := hr.2.1
  unfold maxLen at hm
  by_cases h20 : len ≤ 20
  · have HV := Lib.hid (show fewN l = l.all few3 by unfold fewN; rw [decide_eq_true (by omega)]; rfl)
    rcases hr.form with h0 | ⟨b, off, rfl⟩
    · subst h0
      have HE := Lib.hid (show fewN l = true by rw [HV.out, List.eq_nil_of_length_eq_zero hl]; rfl)
      clear hr hl
      go_enter Tryd.func10, Tryd.ntmps10
      go_wp2
      refine wp_loop_rounds 1 ?_
      rw [rounds_succ]
      go_wp2
      go_ret
      exact ⟨ret_bool HE.out.symm, rfl⟩
    · have HR := Lib.hid hr
      have HL := Lib.hid hl
      clear hr hl
      go_enter Tryd.func10, Tryd.ntmps10
      go_wp2
      go_loop [3] (fun i => ∃ k : Nat, k ≤ len ∧ i = .int .i64 k ∧ (l.drop k).all few3 = l.all few3) (fun i => len - (intOf i).toNat)
      case atStart => exact ⟨0, Nat.zero_le _, rfl, rfl⟩
      case round =>
        obtain ⟨k, hk, rfl, hrest⟩ := hrel
        by_cases hlt : k < len
        · obtain ⟨x, y, m, hx, hd, hb, hz, hz2, c1, c2, c3⟩ := HR.out.tri hlt
          have HT := Lib.hid (hrest.symm.trans ((congrArg (fun z => z.all few3) hd).trans (all_cons _ _ _)))
          clear hrest hx hd
          unfold maxLen at hz hz2
          by_cases e : x.size ≤ 50
          · by_cases e2 : y.size ≤ 50
            · have E := Lib.hid (show few3 (x, y, m) = true by unfold few3; rw [decide_eq_true e, decide_eq_true e2]; rfl)
              go_wp2
              go_round
              case rel => exact ⟨k + 1, by omega, by go_num, (HT.out.trans (by rw [E.out]; exact Bool.true_and _)).symm⟩
              case measure => simp [intOf]; omega
            · have E := Lib.hid (show few3 (x, y, m) = false by unfold few3; rw [decide_eq_false e2]; exact Bool.and_false _)
              have e2' : 50 < y.size := by omega
              clear e2
              go_wp2
              go_ret
              exact ⟨ret_bool (HV.out.trans (HT.out.trans (by rw [E.out]; exact Bool.false_and _))).symm, rfl⟩
          · have E := Lib.hid (show few3 (x, y, m) = false by unfold few3; rw [decide_eq_false e]; exact Bool.false_and _)
            have e' : 50 < x.size := by omega
            clear e
            go_wp2
            go_ret
            exact ⟨ret_bool (HV.out.trans (HT.out.trans (by rw [E.out]; exact Bool.false_and _))).symm, rfl⟩
        · have HS := Lib.hid ((HV.out.trans hrest.symm).trans (congrArg (fun z => z.all few3) (drop_end (by rw [HL.out]; exact hlt))))
          clear hrest
          go_wp2
          go_ret
          exact ⟨ret_bool (HS.out.trans rfl).symm, rfl⟩
  · have HV := Lib.hid (show fewN l = false by unfold fewN; rw [decide_eq_false (by omega)]; rfl)
    have h9 : 20 < len := by omega
    clear h20 hr hl
    go_enter Tryd.func10, Tryd.ntmps10
    go_wp2
    go_ret
    exact ⟨ret_bool HV.out.symm, rfl⟩


theorem fewAR {v : Value} {l : NL} {w : World} (h : Reads TaLay w v l) : Calls Tryd.prog 9 #[v] w fun e w' => e = .returned (.bool (fewN l)) ∧ w = w' := by
  obtain ⟨a, cap, rfl, _, _, hr⟩ := h
  exact fewA_any a _ cap l w hr

theorem fewOR {v : Value} {l : NL} {w : World} (h : Reads TaLay w v l) : Calls Tryd.prog 10 #[v] w fun e w' => e = .returned (.bool (fewN l)) ∧ w = w' := by
  obtain ⟨a, cap, rfl, _, _, hr⟩ := h
  exact fewO_any a _ cap l w hr
theorem few_mid {s : NL} (h : fewN s = true) : s.length ≤ 20 ∧ ∀ x ∈ s, x.1.size ≤ 50 ∧ x.2.1.size ≤ 50 := by
  unfold fewN at h
  simp only [Bool.and_eq_true, decide_eq_true_eq, List.all_eq_true] at h
  refine ⟨h.1, fun x hx => ?_⟩
  have := h.2 x hx
  unfold few3 at this
  simpa using this

end Go.Proofs.YthlhaefaafjmlaaDoor
