/- Whether labels, a selector are short; the reference's checks. -/
import Derived.Test.YtmmjcomoabfmnaaDoorLabReads
namespace Go.Proofs.YtmmjcomoabfmnaaDoor
open Go.RowKit
set_option linter.unusedVariables false

def fewP (x : ByteArray × ByteArray) : Bool := decide (x.1.size ≤ 50) && decide (x.2.size ≤ 50)
def fewT (x : Int × ByteArray × ByteArray) : Bool := decide (x.2.1.size ≤ 50) && decide (x.2.2.size ≤ 50)
def fewS (l : PL) : Bool := decide (l.length ≤ 20) && l.all fewP
def fewL (l : TL) : Bool := decide (l.length ≤ 20) && l.all fewT
set_option maxHeartbeats 800000 in
theorem few_any (a : Option Addr) (len cap : Nat) (l : PL) (w : World) (hr : RowAt PairLay w a len l) :
    Calls Tryd.prog 9 #[.slice a len cap] w fun e w' => e = .returned (.bool (fewS l)) ∧ w = w' := by
  have hl := hr.1
  have hm := hr.2.1
  unfold maxLen at hm
  by_cases h20 : len ≤ 20
  · have HV := Lib.hid (show fewS l = l.all fewP by unfold fewS; rw [decide_eq_true (by omega)]; rfl)
    rcases hr.form with h0 | ⟨b, off, rfl⟩
    · subst h0
      have HE := Lib.hid (show fewS l = true by rw [HV.out, List.eq_nil_of_length_eq_zero hl]; rfl)
      clear hr hl
      go_enter Tryd.func9, Tryd.ntmps9
      go_wp2
      refine wp_loop_rounds 1 ?_
      rw [rounds_succ]
      go_wp2
      go_ret
      exact ⟨ret_bool HE.out.symm, rfl⟩
    · have HR := Lib.hid hr
      have HL := Lib.hid hl
      clear hr hl
      go_enter Tryd.func9, Tryd.ntmps9
      go_wp2
      go_loop [3] (fun i => ∃ k : Nat, k ≤ len ∧ i = .int .i64 k ∧ (l.drop k).all fewP = l.all fewP) (fun i => len - (intOf i).toNat)
      case atStart => exact ⟨0, Nat.zero_le _, rfl, rfl⟩
      case round =>
        obtain ⟨k, hk, rfl, hrest⟩ := hrel
        by_cases hlt : k < len
        · obtain ⟨x, y, hx, hd, hb, hz, hz2, c1, c2⟩ := HR.out.pair hlt
          have HT := Lib.hid (hrest.symm.trans ((congrArg (fun z => z.all fewP) hd).trans (all_cons _ _ _)))
          clear hrest hx hd
          unfold maxLen at hz hz2
          by_cases e : x.size ≤ 50
          · by_cases e2 : y.size ≤ 50
            · have E := Lib.hid (show fewP (x, y) = true by unfold fewP; rw [decide_eq_true e, decide_eq_true e2]; rfl)
              go_wp2
              go_round
              case rel => exact ⟨k + 1, by omega, by go_num, (HT.out.trans (by rw [E.out]; exact Bool.true_and _)).symm⟩
              case measure => simp [intOf]; omega
            · have E := Lib.hid (show fewP (x, y) = false by unfold fewP; rw [decide_eq_false e2]; exact Bool.and_false _)
              have e2' : 50 < y.size := by omega
              clear e2
              go_wp2
              go_ret
              exact ⟨ret_bool (HV.out.trans (HT.out.trans (by rw [E.out]; exact Bool.false_and _))).symm, rfl⟩
          · have E := Lib.hid (show fewP (x, y) = false by unfold fewP; rw [decide_eq_false e]; exact Bool.false_and _)
            have e' : 50 < x.size := by omega
            clear e
            go_wp2
            go_ret
            exact ⟨ret_bool (HV.out.trans (HT.out.trans (by rw [E.out]; exact Bool.false_and _))).symm, rfl⟩
        · have HS := Lib.hid ((HV.out.trans hrest.symm).trans (congrArg (fun z => z.all fewP) (drop_end (by rw [HL.out]; exact hlt))))
          clear hrest
          go_wp2
          go_ret
          exact ⟨ret_bool (HS.out.trans rfl).symm, rfl⟩
  · have HV := Lib.hid (show fewS l = false by unfold fewS; rw [decide_eq_false (by omega)]; rfl)
    have h9 : 20 < len := by omega
    clear h20 hr hl
    go_enter Tryd.func9, Tryd.ntmps9
    go_wp2
    go_ret
    exact ⟨ret_bool HV.out.symm, rfl⟩

set_option maxHeartbeats 800000 in
theorem fewSel_any (a : Option Addr) (len cap : Nat) (l : TL) (w : World) (hr : RowAt TermLay w a len l) :
    Calls Tryd.prog 10 #[.slice a len cap] w fun e w' => e = .returned (.bool (fewL l)) ∧ w = w' := by
  have hl := hr.1
  have hm := hr.2.1
  unfold maxLen at hm
  by_cases h20 : len ≤ 20
  · have HV := Lib.hid (show fewL l = l.all fewT by unfold fewL; rw [decide_eq_true (by omega)]; rfl)
    rcases hr.form with h0 | ⟨b, off, rfl⟩
    · subst h0
      have HE := Lib.hid (show fewL l = true by rw [HV.out, List.eq_nil_of_length_eq_zero hl]; rfl)
      clear hr hl
      go_enter Tryd.func10, Tryd.ntmps10
      go_wp2
      refine wp_loop_rounds 1 ?_
      rw [rounds_succ]
      go_wp2
      go_ret
      exact ⟨ret_bool HE.out.symm, rfl⟩
    · have HR := Lib.hid hr
      have HL := Lib.hid hl
      clear hr hl
      go_enter Tryd.func10, Tryd.ntmps10
      go_wp2
      go_loop [3] (fun i => ∃ k : Nat, k ≤ len ∧ i = .int .i64 k ∧ (l.drop k).all fewT = l.all fewT) (fun i => len - (intOf i).toNat)
      case atStart => exact ⟨0, Nat.zero_le _, rfl, rfl⟩
      case round =>
        obtain ⟨k, hk, rfl, hrest⟩ := hrel
        by_cases hlt : k < len
        · obtain ⟨o, x, y, hx, hd, hb, ho, hz, hz2, c0, c1, c2⟩ := HR.out.term hlt
          have HT := Lib.hid (hrest.symm.trans ((congrArg (fun z => z.all fewT) hd).trans (all_cons _ _ _)))
          clear hrest hx hd
          unfold maxLen at hz hz2
          by_cases e : x.size ≤ 50
          · by_cases e2 : y.size ≤ 50
            · have E := Lib.hid (show fewT (o, x, y) = true by unfold fewT; rw [decide_eq_true e, decide_eq_true e2]; rfl)
              go_wp2
              go_round
              case rel => exact ⟨k + 1, by omega, by go_num, (HT.out.trans (by rw [E.out]; exact Bool.true_and _)).symm⟩
              case measure => simp [intOf]; omega
            · have E := Lib.hid (show fewT (o, x, y) = false by unfold fewT; rw [decide_eq_false e2]; exact Bool.and_false _)
              have e2' : 50 < y.size := by omega
              clear e2
              go_wp2
              go_ret
              exact ⟨ret_bool (HV.out.trans (HT.out.trans (by rw [E.out]; exact Bool.false_and _))).symm, rfl⟩
          · have E := Lib.hid (show fewT (o, x, y) = false by unfold fewT; rw [decide_eq_false e]; exact Bool.false_and _)
            have e' : 50 < x.size := by omega
            clear e
            go_wp2
            go_ret
            exact ⟨ret_bool (HV.out.trans (HT.out.trans (by rw [E.out]; exact Bool.false_and _))).symm, rfl⟩
        · have HS := Lib.hid ((HV.out.trans hrest.symm).trans (congrArg (fun z => z.all fewT) (drop_end (by rw [HL.out]; exact hlt))))
          clear hrest
          go_wp2
          go_ret
          exact ⟨ret_bool (HS.out.trans rfl).symm, rfl⟩
  · have HV := Lib.hid (show fewL l = false by unfold fewL; rw [decide_eq_false (by omega)]; rfl)
    have h9 : 20 < len := by omega
    clear h20 hr hl
    go_enter Tryd.func10, Tryd.ntmps10
    go_wp2
    go_ret
    exact ⟨ret_bool HV.out.symm, rfl⟩

set_option maxHeartbeats 800000 in
theorem refCheckSet_any (a : Option Addr) (len cap : Nat) (l : PL) (w : World) (hr : RowAt PairLay w a len l) :
    Calls Tryd.prog 13 #[.slice a len cap] w fun e w' => e = .returned (.int .i64 (chkS l)) ∧ Kept w w' := by
  have hl := hr.1
  have hm := hr.2.1
  unfold maxLen at hm
  by_cases h8 : len ≤ 8
  · have HV := Lib.hid (show chkS l = chkFrom none l by unfold chkS; rw [if_neg (by omega)])
    rcases hr.form with h0 | ⟨b, off, rfl⟩
    · subst h0
      have HE := Lib.hid (show chkS l = 0 by rw [HV.out]; rw [List.eq_nil_of_length_eq_zero hl]; rfl)
      clear hr hl
      go_enter Tryd.func13, Tryd.ntmps13
      go_wp2
      refine wp_loop_rounds 1 ?_
      rw [rounds_succ]
      go_wp2
      go_ret
      exact ⟨ret_i64 HE.out.symm, Kept.refl _⟩
    · have HR := Lib.hid hr
      have HL := Lib.hid hl
      clear hr hl
      go_enter Tryd.func13, Tryd.ntmps13
      go_wp2
      go_loopw [3] (fun i wr => ∃ k : Nat, k ≤ len ∧ i = .int .i64 k ∧ chkFrom (prevP l k) (l.drop k) = chkFrom none l ∧ Kept w wr) (fun i _ => len - (intOf i).toNat)
      case atStart => exact ⟨0, Nat.zero_le _, rfl, rfl, Kept.refl _⟩
      case round =>
        obtain ⟨k, hk, rfl, hrest, hK⟩ := hrel
        by_cases hlt : k < len
        · obtain ⟨x, y, hx, hd, hb, hz, hz2, c1, c2⟩ := (HR.out.kept hK).pair hlt
          have HX := Lib.hid hx
          have HK := Lib.hid hK
          have HT := Lib.hid (hrest.symm.trans (congrArg (chkFrom (prevP l k)) hd))
          have HS := Lib.hid (HV.out.trans HT.out)
          clear hK hrest hx hd
          by_cases n1 : isName x = true
          · by_cases n2 : isName y = true
            · have N1 := Lib.hid n1
              have N2 := Lib.hid n2
              by_cases h0 : k = 0
              · have hd : decide (0 < k) = false := by subst h0; decide
                have HP := Lib.hid (behind_zero (l := l) h0 x)
                clear h0
                go_wp2_with (go_at_call 31; refine (refName_any _ _ (by assumption)).mono ?_; rintro e w' ⟨rfl, rfl⟩)
                go_quiet (fail)
                go_wp2
                go_roundw
                case rel => exact ⟨k + 1, by omega, by go_num, by rw [prev_succ HX.out]; exact (chk_next N1.out N2.out HP.out).symm.trans HT.out.symm, HK.out.trans (Kept.drewN _ _)⟩
                case measure => simp [intOf]; omega
              · have hd : decide (0 < k) = true := by simp; omega
                have g1 : 0 ≤ (k : Int) - 1 := by omega
                have g2 : (k : Int) - 1 < (len : Int) := by omega
                have g3 : ((k : Int) - 1).toNat = k - 1 := by omega
                obtain ⟨px, py, hpx, _, _, _, _, d1, d2⟩ := (HR.out.kept HK.out).pair (show k - 1 < len by omega)
                have HP := Lib.hid (behind_prev (l := l) h0 hpx x)
                clear hpx
                by_cases n3 : leS x px = true
                · have n3' : (Op.bytesLess x.toList px.toList || x.toList == px.toList) = true := n3
                  have N3 := Lib.hid n3
                  clear n3
                  go_wp2_with (go_at_call 31; refine (refName_any _ _ (by assumption)).mono ?_; rintro e w' ⟨rfl, rfl⟩)
                  go_quiet (fail)
                  go_wp2
                  go_ret
                  exact ⟨ret_i64 (HS.out.trans (chk_order N1.out N2.out (HP.out.trans N3.out))).symm, HK.out.trans (Kept.drewN _ _)⟩
                · have n3 : leS x px = false := by simpa using n3
                  have n3' : (Op.bytesLess x.toList px.toList || x.toList == px.toList) = false := n3
                  have N3 := Lib.hid n3
                  clear n3
                  go_wp2_with (go_at_call 31; refine (refName_any _ _ (by assumption)).mono ?_; rintro e w' ⟨rfl, rfl⟩)
                  go_quiet (fail)
                  go_wp2
                  go_roundw
                  case rel => exact ⟨k + 1, by omega, by go_num, by rw [prev_succ HX.out]; exact (chk_next N1.out N2.out (HP.out.trans N3.out)).symm.trans HT.out.symm, HK.out.trans (Kept.drewN _ _)⟩
                  case measure => simp [intOf]; omega
            · have n2 : isName y = false := by simpa using n2
              have N := Lib.hid (show (isName x && isName y) = false by rw [n2, Bool.and_false])
              go_wp2_with (go_at_call 31; refine (refName_any _ _ (by assumption)).mono ?_; rintro e w' ⟨rfl, rfl⟩)
              go_ret
              exact ⟨ret_i64 (HS.out.trans (chk_name N.out)).symm, HK.out⟩
          · have n1 : isName x = false := by simpa using n1
            have N := Lib.hid (show (isName x && isName y) = false by rw [n1, Bool.false_and])
            go_wp2_with (go_at_call 31; refine (refName_any x _ hz).mono ?_; rintro e w' ⟨rfl, rfl⟩)
            go_ret
            exact ⟨ret_i64 (HS.out.trans (chk_name N.out)).symm, HK.out⟩
        · have HK := Lib.hid hK
          have HS := Lib.hid ((HV.out.trans hrest.symm).trans (congrArg (chkFrom (prevP l k)) (drop_end (by rw [HL.out]; exact hlt))))
          clear hK hrest
          go_wp2
          go_ret
          exact ⟨ret_i64 (HS.out.trans rfl).symm, HK.out⟩
  · have HV := Lib.hid (show chkS l = 4 by unfold chkS; rw [if_pos (by omega)])
    have h9 : 8 < len := by omega
    clear h8 hr hl
    go_enter Tryd.func13, Tryd.ntmps13
    go_wp2
    go_ret
    exact ⟨ret_i64 HV.out.symm, Kept.refl _⟩


set_option maxHeartbeats 1600000 in
theorem refCheckSel_any (a : Option Addr) (len cap : Nat) (l : TL) (w : World) (hr : RowAt TermLay w a len l) :
    Calls Tryd.prog 14 #[.slice a len cap] w fun e w' => e = .returned (.int .i64 (chkL l)) ∧ Kept w w' := by
  have hl := hr.1
  have hm := hr.2.1
  unfold maxLen at hm
  by_cases h8 : len ≤ 8
  · have HV := Lib.hid (show chkL l = chkLF l by unfold chkL; rw [if_neg (by omega)])
    rcases hr.form with h0 | ⟨b, off, rfl⟩
    · subst h0
      have HE := Lib.hid (show chkL l = 0 by rw [HV.out]; rw [List.eq_nil_of_length_eq_zero hl]; rfl)
      clear hr hl
      go_enter Tryd.func14, Tryd.ntmps14
      go_wp2
      refine wp_loop_rounds 1 ?_
      rw [rounds_succ]
      go_wp2
      go_ret
      exact ⟨ret_i64 HE.out.symm, Kept.refl _⟩
    · have HR := Lib.hid hr
      have HL := Lib.hid hl
      clear hr hl
      go_enter Tryd.func14, Tryd.ntmps14
      go_wp2
      go_loopw [3] (fun i wr => ∃ k : Nat, k ≤ len ∧ i = .int .i64 k ∧ chkLF (l.drop k) = chkLF l ∧ Kept w wr) (fun i _ => len - (intOf i).toNat)
      case atStart => exact ⟨0, Nat.zero_le _, rfl, rfl, Kept.refl _⟩
      case round =>
        obtain ⟨k, hk, rfl, hrest, hK⟩ := hrel
        by_cases hlt : k < len
        · obtain ⟨o, x, y, hx, hd, hb, ho, hz, hz2, c1, c2, c3⟩ := (HR.out.kept hK).term hlt
          have HK := Lib.hid hK
          have HT := Lib.hid (hrest.symm.trans ((congrArg chkLF hd).trans (chkLF_cons _ _)))
          have HS := Lib.hid (HV.out.trans HT.out)
          clear hK hrest hx hd
          by_cases g1 : o < 1
          · have N := Lib.hid (show chkT (o, x, y) = 1 by rw [chkT_eq, if_neg (by omega), if_neg (by omega)])
            go_wp2_with (go_at_call 31; refine (refName_any _ _ (by assumption)).mono ?_; rintro e w' ⟨rfl, rfl⟩)
            go_ret
            exact ⟨ret_i64 (HS.out.trans ((if_pos (by rw [N.out]; decide)).trans N.out)).symm, HK.out.trans (kept_alloc _ _)⟩
          · by_cases g4 : 4 < o
            · have g1' : ¬ o < 1 := g1
              have N := Lib.hid (show chkT (o, x, y) = 1 by rw [chkT_eq, if_neg (by omega), if_neg (by omega)])
              go_wp2_with (go_at_call 31; refine (refName_any _ _ (by assumption)).mono ?_; rintro e w' ⟨rfl, rfl⟩)
              go_ret
              exact ⟨ret_i64 (HS.out.trans ((if_pos (by rw [N.out]; decide)).trans N.out)).symm, HK.out.trans (kept_alloc _ _)⟩
            · have hcase : (o = 1 ∨ o = 2) ∨ (o = 3 ∨ o = 4) := by omega
              clear g1 g4
              rcases hcase with hcase | hcase
              · have hc := hcase
                by_cases n1 : isName x = true
                · by_cases n2 : isName y = true
                  · have NN := Lib.hid (show chkT (o, x, y) = 0 by rw [chkT_eq, if_pos hc, if_pos (by rw [n1, n2]; rfl)])
                    clear hc
                    rcases hcase with rfl | rfl
                    · have N := Lib.hid (NN.out)
                      go_wp2_with (go_at_call 31; refine (refName_any _ _ (by assumption)).mono ?_; rintro e w' ⟨rfl, rfl⟩)
                      go_roundw
                      case rel => exact ⟨k + 1, by omega, by go_num, (HT.out.trans (if_neg (by rw [N.out]; decide))).symm, HK.out.trans (kept_alloc _ _)⟩
                      case measure => simp [intOf]; omega
                    · have N := Lib.hid (NN.out)
                      go_wp2_with (go_at_call 31; refine (refName_any _ _ (by assumption)).mono ?_; rintro e w' ⟨rfl, rfl⟩)
                      go_roundw
                      case rel => exact ⟨k + 1, by omega, by go_num, (HT.out.trans (if_neg (by rw [N.out]; decide))).symm, HK.out.trans (kept_alloc _ _)⟩
                      case measure => simp [intOf]; omega
                  · have n2 : isName y = false := by simpa using n2
                    have NN := Lib.hid (show chkT (o, x, y) = 3 by rw [chkT_eq, if_pos hc, if_neg (by rw [n2, Bool.and_false]; decide)])
                    clear hc
                    rcases hcase with rfl | rfl
                    · have N := Lib.hid (NN.out)
                      go_wp2_with (go_at_call 31; refine (refName_any _ _ (by assumption)).mono ?_; rintro e w' ⟨rfl, rfl⟩)
                      go_ret
                      exact ⟨ret_i64 (HS.out.trans ((if_pos (by rw [N.out]; decide)).trans N.out)).symm, HK.out.trans (kept_alloc _ _)⟩
                    · have N := Lib.hid (NN.out)
                      go_wp2_with (go_at_call 31; refine (refName_any _ _ (by assumption)).mono ?_; rintro e w' ⟨rfl, rfl⟩)
                      go_ret
                      exact ⟨ret_i64 (HS.out.trans ((if_pos (by rw [N.out]; decide)).trans N.out)).symm, HK.out.trans (kept_alloc _ _)⟩
                · have n1 : isName x = false := by simpa using n1
                  have NN := Lib.hid (show chkT (o, x, y) = 3 by rw [chkT_eq, if_pos hc, if_neg (by rw [n1, Bool.false_and]; decide)])
                  clear hc
                  rcases hcase with rfl | rfl
                  · have N := Lib.hid (NN.out)
                    go_wp2_with (go_at_call 31; refine (refName_any _ _ (by assumption)).mono ?_; rintro e w' ⟨rfl, rfl⟩)
                    go_ret
                    exact ⟨ret_i64 (HS.out.trans ((if_pos (by rw [N.out]; decide)).trans N.out)).symm, HK.out.trans (kept_alloc _ _)⟩
                  · have N := Lib.hid (NN.out)
                    go_wp2_with (go_at_call 31; refine (refName_any _ _ (by assumption)).mono ?_; rintro e w' ⟨rfl, rfl⟩)
                    go_ret
                    exact ⟨ret_i64 (HS.out.trans ((if_pos (by rw [N.out]; decide)).trans N.out)).symm, HK.out.trans (kept_alloc _ _)⟩
              · have hc := hcase
                have hn : ¬ (o = 1 ∨ o = 2) := by omega
                by_cases n1 : isName x = true
                · by_cases n2 : eqS y ByteArray.empty = true
                  · have NN := Lib.hid (show chkT (o, x, y) = 0 by rw [chkT_eq, if_neg hn, if_pos hc, if_pos (by rw [n1, n2]; rfl)])
                    have n2' : (y.toList == ([] : List UInt8)) = true := by unfold eqS at n2; simpa using n2
                    clear hc hn n2
                    rcases hcase with rfl | rfl
                    · have N := Lib.hid (NN.out)
                      go_wp2_with (go_at_call 31; refine (refName_any _ _ (by assumption)).mono ?_; rintro e w' ⟨rfl, rfl⟩)
                      go_roundw
                      case rel => exact ⟨k + 1, by omega, by go_num, (HT.out.trans (if_neg (by rw [N.out]; decide))).symm, HK.out.trans (kept_alloc _ _)⟩
                      case measure => simp [intOf]; omega
                    · have N := Lib.hid (NN.out)
                      go_wp2_with (go_at_call 31; refine (refName_any _ _ (by assumption)).mono ?_; rintro e w' ⟨rfl, rfl⟩)
                      go_roundw
                      case rel => exact ⟨k + 1, by omega, by go_num, (HT.out.trans (if_neg (by rw [N.out]; decide))).symm, HK.out.trans (kept_alloc _ _)⟩
                      case measure => simp [intOf]; omega
                  · have n2 : eqS y ByteArray.empty = false := by simpa using n2
                    have NN := Lib.hid (show chkT (o, x, y) = 3 by rw [chkT_eq, if_neg hn, if_pos hc, if_neg (by rw [n2, Bool.and_false]; decide)])
                    have n2' : (y.toList == ([] : List UInt8)) = false := by unfold eqS at n2; simpa using n2
                    clear hc hn n2
                    rcases hcase with rfl | rfl
                    · have N := Lib.hid (NN.out)
                      go_wp2_with (go_at_call 31; refine (refName_any _ _ (by assumption)).mono ?_; rintro e w' ⟨rfl, rfl⟩)
                      go_ret
                      exact ⟨ret_i64 (HS.out.trans ((if_pos (by rw [N.out]; decide)).trans N.out)).symm, HK.out.trans (kept_alloc _ _)⟩
                    · have N := Lib.hid (NN.out)
                      go_wp2_with (go_at_call 31; refine (refName_any _ _ (by assumption)).mono ?_; rintro e w' ⟨rfl, rfl⟩)
                      go_ret
                      exact ⟨ret_i64 (HS.out.trans ((if_pos (by rw [N.out]; decide)).trans N.out)).symm, HK.out.trans (kept_alloc _ _)⟩
                · have n1 : isName x = false := by simpa using n1
                  have NN := Lib.hid (show chkT (o, x, y) = 3 by rw [chkT_eq, if_neg hn, if_pos hc, if_neg (by rw [n1, Bool.false_and]; decide)])
                  clear hc hn
                  rcases hcase with rfl | rfl
                  · have N := Lib.hid (NN.out)
                    go_wp2_with (go_at_call 31; refine (refName_any _ _ (by assumption)).mono ?_; rintro e w' ⟨rfl, rfl⟩)
                    go_ret
                    exact ⟨ret_i64 (HS.out.trans ((if_pos (by rw [N.out]; decide)).trans N.out)).symm, HK.out.trans (kept_alloc _ _)⟩
                  · have N := Lib.hid (NN.out)
                    go_wp2_with (go_at_call 31; refine (refName_any _ _ (by assumption)).mono ?_; rintro e w' ⟨rfl, rfl⟩)
                    go_ret
                    exact ⟨ret_i64 (HS.out.trans ((if_pos (by rw [N.out]; decide)).trans N.out)).symm, HK.out.trans (kept_alloc _ _)⟩
        · have HK := Lib.hid hK
          have HS := Lib.hid ((HV.out.trans hrest.symm).trans (congrArg chkLF (drop_end (by rw [HL.out]; exact hlt))))
          clear hK hrest
          go_wp2
          go_ret
          exact ⟨ret_i64 (HS.out.trans rfl).symm, HK.out⟩
  · have HV := Lib.hid (show chkL l = 4 by unfold chkL; rw [if_pos (by omega)])
    have h9 : 8 < len := by omega
    clear h8 hr hl
    go_enter Tryd.func14, Tryd.ntmps14
    go_wp2
    go_ret
    exact ⟨ret_i64 HV.out.symm, Kept.refl _⟩

end Go.Proofs.YtmmjcomoabfmnaaDoor
