/- The reference's Label, Match. -/
import Derived.Test.YtflllkpnkcmegaaGreatDoorLab
namespace Go.Proofs.YtflllkpnkcmegaaGreatDoor
open Go.RowKit
set_option linter.unusedVariables false

set_option maxHeartbeats 800000 in
theorem refLabel_any (a : Option Addr) (len cap : Nat) (l : PL) (n : ByteArray) (w : World) (hr : RowAt PairLay w a len l) :
    Calls Tryz.prog 183 #[.slice a len cap, .string n] w fun e w' => e = .returned (.tuple #[.string (getT l n), .bool (hasS l n)]) ∧ w = w' := by
  have hl := hr.1
  have hm := hr.2.1
  unfold maxLen at hm
  rcases hr.form with h0 | ⟨b, off, rfl⟩
  · subst h0
    have HE := Lib.hid (show getS l n = none by rw [List.eq_nil_of_length_eq_zero hl]; rfl)
    clear hr hl
    go_enter Tryz.func183, Tryz.ntmps183
    go_wp2
    refine wp_loop_rounds 1 ?_
    rw [rounds_succ]
    go_wp2
    go_ret2
    exact ⟨ret_get HE.out, rfl⟩
  · have HR := Lib.hid hr
    have HL := Lib.hid hl
    clear hr hl
    go_enter Tryz.func183, Tryz.ntmps183
    go_wp2
    go_loop [6] (fun i => ∃ k : Nat, k ≤ len ∧ i = .int .i64 k ∧ getS (l.drop k) n = getS l n) (fun i => len - (intOf i).toNat)
    case atStart => exact ⟨0, Nat.zero_le _, rfl, rfl⟩
    case round =>
      obtain ⟨k, hk, rfl, hrest⟩ := hrel
      by_cases hlt : k < len
      · obtain ⟨x, y, hx, hd, hb, hz, hz2, c1, c2⟩ := HR.out.pair hlt
        have HT := Lib.hid (hrest.symm.trans ((congrArg (fun z => getS z n) hd).trans (getS_cons _ _ _ _)))
        clear hrest hx hd
        by_cases e : eqS x n = true
        · have E := Lib.hid e
          have e' : (x.toList == n.toList) = true := e
          clear e
          go_wp2
          go_ret2
          exact ⟨ret_get (HT.out.trans (if_pos E.out)), rfl⟩
        · have E := Lib.hid e
          have e' : (x.toList == n.toList) = false := by unfold eqS at e; simpa using e
          clear e
          go_wp2
          go_round
          case rel => exact ⟨k + 1, by omega, by go_num, (HT.out.trans (if_neg E.out)).symm⟩
          case measure => simp [intOf]; omega
      · have HS := Lib.hid (hrest.symm.trans (congrArg (fun z => getS z n) (drop_end (by rw [HL.out]; exact hlt))))
        clear hrest
        go_wp2
        go_ret2
        exact ⟨ret_get (HS.out.trans rfl), rfl⟩

set_option maxHeartbeats 1600000 in
theorem refMatch_any (a a' : Option Addr) (len cap len' cap' : Nat) (l : TL) (s : PL) (w : World) (hr : RowAt TermLay w a len l) (hr' : RowAt PairLay w a' len' s) :
    Calls Tryz.prog 154 #[.slice a len cap, .slice a' len' cap'] w fun e w' => e = .returned (.bool (matchT l s)) ∧ w = w' := by
  have hl := hr.1
  have hm := hr.2.1
  unfold maxLen at hm
  rcases hr.form with h0 | ⟨b, off, rfl⟩
  · subst h0
    have HE := Lib.hid (show matchT l s = true by rw [List.eq_nil_of_length_eq_zero hl]; rfl)
    clear hr hl hr'
    go_enter Tryz.func154, Tryz.ntmps154
    go_wp2
    refine wp_loop_rounds 1 ?_
    rw [rounds_succ]
    go_wp2
    go_ret
    exact ⟨ret_bool HE.out.symm, rfl⟩
  · have HR := Lib.hid hr
    have HR' := Lib.hid hr'
    have HL := Lib.hid hl
    clear hr hl hr'
    go_enter Tryz.func154, Tryz.ntmps154
    go_wp2
    go_loop [5] (fun i => ∃ k : Nat, k ≤ len ∧ i = .int .i64 k ∧ matchT (l.drop k) s = matchT l s) (fun i => len - (intOf i).toNat)
    case atStart => exact ⟨0, Nat.zero_le _, rfl, rfl⟩
    case round =>
      obtain ⟨k, hk, rfl, hrest⟩ := hrel
      by_cases hlt : k < len
      · obtain ⟨o, x, y, hx, hd, hb, ho, hz, hz2, c1, c2, c3⟩ := HR.out.term hlt
        have HT := Lib.hid (hrest.symm.trans ((congrArg (fun z => matchT z s) hd).trans (match_cons _ _ _)))
        have HG := Lib.hid (refLabel_any a' len' cap' s x w HR'.out)
        obtain ⟨v, hv⟩ : ∃ v, getT s x = v := ⟨_, rfl⟩
        obtain ⟨h, hh⟩ : ∃ h, hasS s x = h := ⟨_, rfl⟩
        obtain ⟨q, hq⟩ : ∃ q, eqS v y = q := ⟨_, rfl⟩
        have hq' : (v.toList == y.toList) = q := hq
        rw [hv, hh] at HG
        clear hrest hx hd
        by_cases h1 : o = 1
        · subst h1
          have HV := Lib.hid (show holdsT s (1, x, y) = (h && q) by rw [holdsT_eq, if_pos rfl, hv, hh, hq])
          clear hv hh hq
          cases h <;> cases q
          · go_wp2_with (go_at_call 183; refine HG.out.mono ?_; rintro e w1 ⟨rfl, rfl⟩)
            go_ret
            exact ⟨ret_bool (HT.out.trans (by rw [HV.out]; exact Bool.false_and _)).symm, rfl⟩
          · go_wp2_with (go_at_call 183; refine HG.out.mono ?_; rintro e w1 ⟨rfl, rfl⟩)
            go_ret
            exact ⟨ret_bool (HT.out.trans (by rw [HV.out]; exact Bool.false_and _)).symm, rfl⟩
          · go_wp2_with (go_at_call 183; refine HG.out.mono ?_; rintro e w1 ⟨rfl, rfl⟩)
            go_ret
            exact ⟨ret_bool (HT.out.trans (by rw [HV.out]; exact Bool.false_and _)).symm, rfl⟩
          · go_wp2_with (go_at_call 183; refine HG.out.mono ?_; rintro e w1 ⟨rfl, rfl⟩)
            go_round
            case rel => exact ⟨k + 1, by omega, by go_num, (HT.out.trans (by rw [HV.out]; exact Bool.true_and _)).symm⟩
            case measure => simp [intOf]; omega
        · by_cases h2 : o = 2
          · subst h2
            have HV := Lib.hid (show holdsT s (2, x, y) = (!h || !q) by rw [holdsT_eq, if_neg (by decide), if_pos rfl, hv, hh, hq])
            clear hv hh hq h1
            cases h <;> cases q
            · go_wp2_with (go_at_call 183; refine HG.out.mono ?_; rintro e w1 ⟨rfl, rfl⟩)
              go_round
              case rel => exact ⟨k + 1, by omega, by go_num, (HT.out.trans (by rw [HV.out]; exact Bool.true_and _)).symm⟩
              case measure => simp [intOf]; omega
            · go_wp2_with (go_at_call 183; refine HG.out.mono ?_; rintro e w1 ⟨rfl, rfl⟩)
              go_round
              case rel => exact ⟨k + 1, by omega, by go_num, (HT.out.trans (by rw [HV.out]; exact Bool.true_and _)).symm⟩
              case measure => simp [intOf]; omega
            · go_wp2_with (go_at_call 183; refine HG.out.mono ?_; rintro e w1 ⟨rfl, rfl⟩)
              go_round
              case rel => exact ⟨k + 1, by omega, by go_num, (HT.out.trans (by rw [HV.out]; exact Bool.true_and _)).symm⟩
              case measure => simp [intOf]; omega
            · go_wp2_with (go_at_call 183; refine HG.out.mono ?_; rintro e w1 ⟨rfl, rfl⟩)
              go_ret
              exact ⟨ret_bool (HT.out.trans (by rw [HV.out]; exact Bool.false_and _)).symm, rfl⟩
          · by_cases h3 : o = 3
            · subst h3
              have HV := Lib.hid (show holdsT s (3, x, y) = h by rw [holdsT_eq, if_neg (by decide), if_neg (by decide), if_pos rfl, hh])
              clear hv hh hq h1 h2
              cases h
              · go_wp2_with (go_at_call 183; refine HG.out.mono ?_; rintro e w1 ⟨rfl, rfl⟩)
                go_ret
                exact ⟨ret_bool (HT.out.trans (by rw [HV.out]; exact Bool.false_and _)).symm, rfl⟩
              · go_wp2_with (go_at_call 183; refine HG.out.mono ?_; rintro e w1 ⟨rfl, rfl⟩)
                go_round
                case rel => exact ⟨k + 1, by omega, by go_num, (HT.out.trans (by rw [HV.out]; exact Bool.true_and _)).symm⟩
                case measure => simp [intOf]; omega
            · by_cases h4 : o = 4
              · subst h4
                have HV := Lib.hid (show holdsT s (4, x, y) = !h by rw [holdsT_eq, if_neg (by decide), if_neg (by decide), if_neg (by decide), if_pos rfl, hh])
                clear hv hh hq h1 h2 h3
                cases h
                · go_wp2_with (go_at_call 183; refine HG.out.mono ?_; rintro e w1 ⟨rfl, rfl⟩)
                  go_round
                  case rel => exact ⟨k + 1, by omega, by go_num, (HT.out.trans (by rw [HV.out]; exact Bool.true_and _)).symm⟩
                  case measure => simp [intOf]; omega
                · go_wp2_with (go_at_call 183; refine HG.out.mono ?_; rintro e w1 ⟨rfl, rfl⟩)
                  go_ret
                  exact ⟨ret_bool (HT.out.trans (by rw [HV.out]; exact Bool.false_and _)).symm, rfl⟩
              · have HV := Lib.hid (show holdsT s (o, x, y) = false by rw [holdsT_eq, if_neg h1, if_neg h2, if_neg h3, if_neg h4])
                have e1 : (o == 1) = false := by simpa using h1
                have e2 : (o == 2) = false := by simpa using h2
                have e3 : (o == 3) = false := by simpa using h3
                have e4 : (o == 4) = false := by simpa using h4
                clear hv hh hq h1 h2 h3 h4
                · go_wp2_with (go_at_call 183; refine HG.out.mono ?_; rintro e w1 ⟨rfl, rfl⟩)
                  go_ret
                  exact ⟨ret_bool (HT.out.trans (by rw [HV.out]; exact Bool.false_and _)).symm, rfl⟩
      · have HS := Lib.hid (hrest.symm.trans (congrArg (fun z => matchT z s) (drop_end (by rw [HL.out]; exact hlt))))
        clear hrest
        go_wp2
        go_ret
        exact ⟨ret_bool (HS.out.trans rfl).symm, rfl⟩

theorem refMatchR {v v' : Value} {l : TL} {s : PL} {b : Bool} {w : World} (h : Reads TermLay w v l) (h' : Reads PairLay w v' s) (hb : matchT l s = b) :
    Calls Tryz.prog 154 #[v, v'] w (Say (.bool b) w) := by
  obtain ⟨a, cap, rfl, _, _, hr⟩ := h
  obtain ⟨a', cap', rfl, _, _, hr'⟩ := h'
  exact (refMatch_any a a' _ cap _ cap' l s w hr hr').mono fun e w' ⟨he, k⟩ => ⟨by rw [he, hb], k ▸ Kept.refl _⟩

end Go.Proofs.YtflllkpnkcmegaaGreatDoor
