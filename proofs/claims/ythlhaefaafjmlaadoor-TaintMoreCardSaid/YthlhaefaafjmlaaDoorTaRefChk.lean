/- The reference's checks of taints, of tolerations. -/
import Derived.Test.YthlhaefaafjmlaaDoorTaBase
import Derived.Test.YthlhaefaafjmlaaDoorTaChk
namespace Go.Proofs.YthlhaefaafjmlaaDoor
open Go.RowKit Go.Sort
set_option linter.unusedVariables false

set_option maxHeartbeats 3200000 in
theorem refCheckO_any (a : Option Addr) (len cap : Nat) (l : NL) (w : World) (hr : RowAt TaLay w a len l) :
    Calls Tryd.prog 14 #[.slice a len cap] w fun e w' => e = .returned (.int .i64 (chkO l)) ∧ Kept w w' := by
  have hl := hr.1
  have hm := hr.2.1
  unfold maxLen at hm
  by_cases h8 : len ≤ 8
  · have HV := Lib.hid (show chkO l = if l.all namedN = true then 0 else 3 by unfold chkO; rw [if_neg (by omega)])
    rcases hr.form with h0 | ⟨b, off, rfl⟩
    · subst h0
      have HE := Lib.hid (show chkO l = 0 by rw [HV.out]; rw [List.eq_nil_of_length_eq_zero hl]; rfl)
      clear hr hl
      go_enter Tryd.func14, Tryd.ntmps14
      go_wp2
      refine wp_loop_rounds 1 ?_
      rw [rounds_succ]
      go_wp2
      go_ret
      exact ⟨ret_i64 HE.out.symm, Kept.refl _⟩
    · have HR := Lib.hid hr
      have HL := Lib.hid hl
      clear hr hl
      go_enter Tryd.func14, Tryd.ntmps14
      go_wp2
      go_loopw [3] (fun i wr => ∃ k : Nat, k ≤ len ∧ i = .int .i64 k ∧ (l.drop k).all namedN = l.all namedN ∧ Kept w wr) (fun i _ => len - (intOf i).toNat)
      case atStart => exact ⟨0, Nat.zero_le _, rfl, rfl, Kept.refl _⟩
      case round =>
        obtain ⟨k, hk, rfl, hrest, hK⟩ := hrel
        by_cases hlt : k < len
        · obtain ⟨x, y, m, hx, hd, hb, hz, hz2, c1, c2, c3⟩ := (HR.out.kept hK).tri hlt
          have HK := Lib.hid hK
          have HS := Lib.hid (hrest.symm.trans ((congrArg (fun z => z.all namedN) hd).trans all_named))
          obtain ⟨q0, hq0⟩ : ∃ q, (x.toList == ([] : List UInt8)) = q := ⟨_, rfl⟩
          obtain ⟨q2, hq2⟩ : ∃ q, (y.toList == ([] : List UInt8)) = q := ⟨_, rfl⟩
          obtain ⟨n1, hn1⟩ : ∃ q, isName x = q := ⟨_, rfl⟩
          obtain ⟨n2, hn2⟩ : ∃ q, isName y = q := ⟨_, rfl⟩
          have HN := Lib.hid (show namedN (x, y, m) = ((q0 || n1) && (if m = true then q2 else n2)) by unfold namedN; rw [no_iff, no_iff, hq0, hq2, hn1, hn2])
          clear hK hrest hx hd
          cases q0 with
          | true =>
            cases m with
            | true =>
              cases q2 with
              | true =>
                have HQ := Lib.hid (show namedN (x, y, true) = true by rw [HN.out]; rfl)
                go_wp2_with (go_at_call 33; refine (refName_any _ _ (by assumption)).mono ?_; rintro e w' ⟨rfl, rfl⟩)
                go_roundw
                case rel => exact ⟨k + 1, by omega, by go_num, (HS.out.trans (by rw [HQ.out]; exact Bool.true_and _)).symm, HK.out.trans (kept_alloc _ _)⟩
                case measure => simp [intOf]; omega
              | false =>
                have HQ := Lib.hid (show chkO l = 3 by rw [HV.out, HS.out, HN.out]; rfl)
                go_wp2_with (go_at_call 33; refine (refName_any _ _ (by assumption)).mono ?_; rintro e w' ⟨rfl, rfl⟩)
                go_ret
                exact ⟨ret_i64 HQ.out.symm, HK.out.trans (kept_alloc _ _)⟩
            | false =>
              cases n2 with
              | true =>
                have HQ := Lib.hid (show namedN (x, y, false) = true by rw [HN.out]; rfl)
                go_wp2_with (go_at_call 33; refine (refName_any _ _ (by assumption)).mono ?_; rintro e w' ⟨rfl, rfl⟩)
                go_roundw
                case rel => exact ⟨k + 1, by omega, by go_num, (HS.out.trans (by rw [HQ.out]; exact Bool.true_and _)).symm, HK.out.trans (kept_alloc _ _)⟩
                case measure => simp [intOf]; omega
              | false =>
                have HQ := Lib.hid (show chkO l = 3 by rw [HV.out, HS.out, HN.out]; rfl)
                go_wp2_with (go_at_call 33; refine (refName_any _ _ (by assumption)).mono ?_; rintro e w' ⟨rfl, rfl⟩)
                go_ret
                exact ⟨ret_i64 HQ.out.symm, HK.out.trans (kept_alloc _ _)⟩
          | false =>
            cases n1 with
            | true =>
              cases m with
              | true =>
                cases q2 with
                | true =>
                  have HQ := Lib.hid (show namedN (x, y, true) = true by rw [HN.out]; rfl)
                  go_wp2_with (go_at_call 33; refine (refName_any _ _ (by assumption)).mono ?_; rintro e w' ⟨rfl, rfl⟩)
                  go_roundw
                  case rel => exact ⟨k + 1, by omega, by go_num, (HS.out.trans (by rw [HQ.out]; exact Bool.true_and _)).symm, HK.out.trans (kept_alloc _ _)⟩
                  case measure => simp [intOf]; omega
                | false =>
                  have HQ := Lib.hid (show chkO l = 3 by rw [HV.out, HS.out, HN.out]; rfl)
                  go_wp2_with (go_at_call 33; refine (refName_any _ _ (by assumption)).mono ?_; rintro e w' ⟨rfl, rfl⟩)
                  go_ret
                  exact ⟨ret_i64 HQ.out.symm, HK.out.trans (kept_alloc _ _)⟩
              | false =>
                cases n2 with
                | true =>
                  have HQ := Lib.hid (show namedN (x, y, false) = true by rw [HN.out]; rfl)
                  go_wp2_with (go_at_call 33; refine (refName_any _ _ (by assumption)).mono ?_; rintro e w' ⟨rfl, rfl⟩)
                  go_roundw
                  case rel => exact ⟨k + 1, by omega, by go_num, (HS.out.trans (by rw [HQ.out]; exact Bool.true_and _)).symm, HK.out.trans (kept_alloc _ _)⟩
                  case measure => simp [intOf]; omega
                | false =>
                  have HQ := Lib.hid (show chkO l = 3 by rw [HV.out, HS.out, HN.out]; rfl)
                  go_wp2_with (go_at_call 33; refine (refName_any _ _ (by assumption)).mono ?_; rintro e w' ⟨rfl, rfl⟩)
                  go_ret
                  exact ⟨ret_i64 HQ.out.symm, HK.out.trans (kept_alloc _ _)⟩
            | false =>
              have HQ := Lib.hid (show chkO l = 3 by rw [HV.out, HS.out, HN.out]; rfl)
              go_wp2_with (go_at_call 33; refine (refName_any _ _ (by assumption)).mono ?_; rintro e w' ⟨rfl, rfl⟩)
              go_ret
              exact ⟨ret_i64 HQ.out.symm, HK.out.trans (kept_alloc _ _)⟩
        · have HK := Lib.hid hK
          have HS := Lib.hid (hrest.symm.trans (congrArg (fun z => z.all namedN) (drop_end (by rw [HL.out]; exact hlt))))
          have HF := Lib.hid (show chkO l = 0 by rw [HV.out, HS.out]; rfl)
          clear hK hrest
          go_wp2
          go_ret
          exact ⟨ret_i64 HF.out.symm, HK.out⟩
  · have HV := Lib.hid (show chkO l = 4 by unfold chkO; rw [if_pos (by omega)])
    have h9 : 8 < len := by omega
    clear h8 hr hl
    go_enter Tryd.func14, Tryd.ntmps14
    go_wp2
    go_ret
    exact ⟨ret_i64 HV.out.symm, Kept.refl _⟩

theorem twin_found {l : NL} {k j : Nat} {t z : NT} (hj : j < k) (hz : l[j]? = some z) (h : twinN t z = true) : (l.take k).any (twinN t) = true := by
  rw [List.any_eq_true]
  refine ⟨z, List.mem_of_getElem? (i := j) ?_, h⟩
  rw [List.getElem?_take, if_pos hj]; exact hz
theorem twin_next {l : NL} {j : Nat} {t z : NT} (hz : l[j]? = some z) (h : (l.take j).any (twinN t) = false) (g : twinN t z = false) : (l.take (j + 1)).any (twinN t) = false := by
  rw [take_snoc hz, List.any_append, h]
  simp [g]

set_option maxHeartbeats 3200000 in
theorem refCheckA_any (a : Option Addr) (len cap : Nat) (l : NL) (w : World) (hr : RowAt TaLay w a len l) :
    Calls Tryd.prog 13 #[.slice a len cap] w fun e w' => e = .returned (.int .i64 (chkA l)) ∧ Kept w w' := by
  have hl := hr.1
  have hm := hr.2.1
  unfold maxLen at hm
  by_cases h8 : len ≤ 8
  · have HV := Lib.hid (show chkA l = chkAF [] l by unfold chkA; rw [if_neg (by omega)])
    rcases hr.form with h0 | ⟨b, off, rfl⟩
    · subst h0
      have HE := Lib.hid (show chkA l = 0 by rw [HV.out]; rw [List.eq_nil_of_length_eq_zero hl]; rfl)
      clear hr hl
      go_enter Tryd.func13, Tryd.ntmps13
      go_wp2
      refine wp_loop_rounds 1 ?_
      rw [rounds_succ]
      go_wp2
      go_ret
      exact ⟨ret_i64 HE.out.symm, Kept.refl _⟩
    · have HR := Lib.hid hr
      have HL := Lib.hid hl
      clear hr hl
      go_enter Tryd.func13, Tryd.ntmps13
      go_wp2
      go_loopw [3] (fun i wr => ∃ k : Nat, k ≤ len ∧ i = .int .i64 k ∧ chkAF (l.take k) (l.drop k) = chkAF [] l ∧ Kept w wr) (fun i _ => len - (intOf i).toNat)
      case atStart => exact ⟨0, Nat.zero_le _, rfl, rfl, Kept.refl _⟩
      case round =>
        obtain ⟨k, hk, rfl, hrest, hK⟩ := hrel
        by_cases hlt : k < len
        · obtain ⟨x, y, m, hx, hd, hb, hz, hz2, c1, c2, c3⟩ := (HR.out.kept hK).tri hlt
          have HX := Lib.hid hx
          have HK := Lib.hid hK
          have HT := Lib.hid (hrest.symm.trans (congrArg (chkAF (l.take k)) hd))
          have HS := Lib.hid (HV.out.trans HT.out)
          clear hK hrest hx hd
          by_cases n1 : isName x = true
          · by_cases n2 : isName y = true
            · have N1 := Lib.hid n1
              have N2 := Lib.hid n2
              go_wp2_with (go_at_call 33; refine (refName_any _ _ (by assumption)).mono ?_; rintro e w' ⟨rfl, rfl⟩)
              go_loopw [4] (fun i wr2 => ∃ j : Nat, j ≤ k ∧ i = .int .i64 j ∧ (l.take j).any (twinN (x, y, m)) = false ∧ Kept w wr2) (fun i _ => k - (intOf i).toNat)
              case atStart => exact ⟨0, Nat.zero_le _, rfl, rfl, HK.out⟩
              case round =>
                obtain ⟨j, hj, rfl, hnone, hK2⟩ := hrel
                have HK2 := Lib.hid hK2
                have HNO := Lib.hid hnone
                by_cases hjk : j < k
                · obtain ⟨x', y', m', hx', _, hb', _, _, d1, d2, d3⟩ := (HR.out.kept hK2).tri (show j < len by omega)
                  obtain ⟨x9, y9, m9, hx9, _, _, _, _, e1, e2, e3⟩ := (HR.out.kept hK2).tri hlt
                  obtain ⟨rfl, rfl, rfl⟩ : x = x9 ∧ y = y9 ∧ m = m9 := by rw [HX.out] at hx9; simpa using hx9
                  have HX' := Lib.hid hx'
                  obtain ⟨q1, hq1⟩ : ∃ q, (x'.toList == x.toList) = q := ⟨_, rfl⟩
                  obtain ⟨q2, hq2⟩ : ∃ q, (y'.toList == y.toList) = q := ⟨_, rfl⟩
                  have HTW := Lib.hid (show twinN (x, y, m) (x', y', m') = (q1 && q2) by unfold twinN eqS; rw [hq1, hq2])
                  have hjl : (j : Int) < (len : Int) := by omega
                  clear hx9 hx' hnone hK2
                  cases q1 with
                  | true =>
                    cases q2 with
                    | true =>
                      go_wp2_with fail
                      go_quiet (fail)
                      go_wp2
                      go_ret
                      exact ⟨ret_i64 (HS.out.trans (chkA_twice N1.out N2.out (twin_found hjk HX'.out HTW.out))).symm, HK2.out.trans (Kept.drewN _ _)⟩
                    | false =>
                      go_wp2_with fail
                      go_quiet (fail)
                      go_wp2
                      go_roundw
                      case rel => exact ⟨j + 1, by omega, by go_num, twin_next HX'.out HNO.out HTW.out, HK2.out.trans (Kept.drewN _ _)⟩
                      case measure => simp [intOf]; omega
                  | false =>
                    go_wp2_with fail
                    go_quiet (fail)
                    go_wp2
                    go_roundw
                    case rel => exact ⟨j + 1, by omega, by go_num, twin_next HX'.out HNO.out HTW.out, HK2.out.trans (Kept.drewN _ _)⟩
                    case measure => simp [intOf]; omega
                · obtain rfl : j = k := by omega
                  clear hnone hK2
                  go_wp2
                  go_roundw
                  case rel => exact ⟨j + 1, by omega, by go_num, by rw [take_snoc HX.out]; exact (chkA_next N1.out N2.out HNO.out).symm.trans HT.out.symm, HK2.out⟩
                  case measure => simp [intOf]; omega
            · have n2 : isName y = false := by simpa using n2
              have N := Lib.hid (show (isName x && isName y) = false by rw [n2, Bool.and_false])
              go_wp2_with (go_at_call 33; refine (refName_any _ _ (by assumption)).mono ?_; rintro e w' ⟨rfl, rfl⟩)
              go_ret
              exact ⟨ret_i64 (HS.out.trans (chkA_name N.out)).symm, HK.out⟩
          · have n1 : isName x = false := by simpa using n1
            have N := Lib.hid (show (isName x && isName y) = false by rw [n1, Bool.false_and])
            go_wp2_with (go_at_call 33; refine (refName_any _ _ (by assumption)).mono ?_; rintro e w' ⟨rfl, rfl⟩)
            go_ret
            exact ⟨ret_i64 (HS.out.trans (chkA_name N.out)).symm, HK.out⟩
        · have HK := Lib.hid hK
          have HS := Lib.hid ((HV.out.trans hrest.symm).trans (congrArg (chkAF (l.take k)) (drop_end (by rw [HL.out]; exact hlt))))
          clear hK hrest
          go_wp2
          go_ret
          exact ⟨ret_i64 (HS.out.trans rfl).symm, HK.out⟩
  · have HV := Lib.hid (show chkA l = 4 by unfold chkA; rw [if_pos (by omega)])
    have h9 : 8 < len := by omega
    clear h8 hr hl
    go_enter Tryd.func13, Tryd.ntmps13
    go_wp2
    go_ret
    exact ⟨ret_i64 HV.out.symm, Kept.refl _⟩

theorem refCheckAR {v : Value} {l : NL} {c : Int} {w : World} (h : Reads TaLay w v l) (hc : chkA l = c) : Calls Tryd.prog 13 #[v] w (Say (.int .i64 c) w) := by
  obtain ⟨a, cap, rfl, _, _, hr⟩ := h
  exact (refCheckA_any a _ cap l w hr).mono fun e w' ⟨he, k⟩ => ⟨by rw [he, hc], k⟩

theorem refCheckOR {v : Value} {l : NL} {c : Int} {w : World} (h : Reads TaLay w v l) (hc : chkO l = c) : Calls Tryd.prog 14 #[v] w (Say (.int .i64 c) w) := by
  obtain ⟨a, cap, rfl, _, _, hr⟩ := h
  exact (refCheckO_any a _ cap l w hr).mono fun e w' ⟨he, k⟩ => ⟨by rw [he, hc], k⟩

end Go.Proofs.YthlhaefaafjmlaaDoor
