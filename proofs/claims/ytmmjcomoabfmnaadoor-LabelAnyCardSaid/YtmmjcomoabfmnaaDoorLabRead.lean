/- Labels and selectors read by package label: whether they may be, what a key has, what a term holds of. -/
import Derived.Test.YtmmjcomoabfmnaaDoorGJoin
namespace Go.Proofs.YtmmjcomoabfmnaaDoor
open Go.RowKit
set_option linter.unusedVariables false

abbrev PL := List (ByteArray × ByteArray)
abbrev TL := List (Int × ByteArray × ByteArray)

def behindB (prev : Option ByteArray) (s : ByteArray) : Bool := match prev with | none => false | some p => leS s p
def prevP (l : PL) (k : Nat) : Option ByteArray := if k = 0 then none else (l[k - 1]?).map (·.1)
def chkFrom : Option ByteArray → PL → Int
  | _, [] => 0
  | prev, x :: t => if (isName x.1 && isName x.2) = false then 3 else if behindB prev x.1 = true then 13 else chkFrom (some x.1) t
def chkS (l : PL) : Int := if 8 < l.length then 4 else chkFrom none l

theorem behind_zero {l : PL} {k : Nat} (h : k = 0) (s : ByteArray) : behindB (prevP l k) s = false := by unfold prevP; rw [if_pos h]; rfl
theorem behind_prev {l : PL} {k : Nat} {x y : ByteArray} (h : ¬ k = 0) (hx : l[k - 1]? = some (x, y)) (s : ByteArray) : behindB (prevP l k) s = leS s x := by unfold prevP; rw [if_neg h, hx]; rfl
theorem prev_succ {l : PL} {k : Nat} {x y : ByteArray} (hx : l[k]? = some (x, y)) : prevP l (k + 1) = some x := by unfold prevP; rw [if_neg (by omega), Nat.add_sub_cancel, hx]; rfl
theorem chk_name {p : Option ByteArray} {x y : ByteArray} {t : PL} (n : (isName x && isName y) = false) : chkFrom p ((x, y) :: t) = 3 := by rw [chkFrom, if_pos n]
theorem chk_order {p : Option ByteArray} {x y : ByteArray} {t : PL} (n1 : isName x = true) (n2 : isName y = true) (b : behindB p x = true) : chkFrom p ((x, y) :: t) = 13 := by
  rw [chkFrom, if_neg (by dsimp only; rw [n1, n2]; decide), if_pos b]
theorem chk_next {p : Option ByteArray} {x y : ByteArray} {t : PL} (n1 : isName x = true) (n2 : isName y = true) (b : behindB p x = false) : chkFrom p ((x, y) :: t) = chkFrom (some x) t := by
  rw [chkFrom, if_neg (by dsimp only; rw [n1, n2]; decide), if_neg (by dsimp only; rw [b]; decide)]
set_option maxHeartbeats 800000 in
theorem check_any (a : Option Addr) (len cap : Nat) (l : PL) (w : World) (hr : RowAt PairLay w a len l) :
    Calls Tryd.prog 15 #[.slice a len cap] w fun e w' => e = .returned (.int .i64 (chkS l)) ∧ Kept w w' := by
  have hl := hr.1
  have hm := hr.2.1
  unfold maxLen at hm
  by_cases h8 : len ≤ 8
  · have HV := Lib.hid (show chkS l = chkFrom none l by unfold chkS; rw [if_neg (by omega)])
    rcases hr.form with h0 | ⟨b, off, rfl⟩
    · subst h0
      have HE := Lib.hid (show chkS l = 0 by rw [HV.out]; rw [List.eq_nil_of_length_eq_zero hl]; rfl)
      clear hr hl
      go_enter Tryd.func15, Tryd.ntmps15
      go_wp2
      refine wp_loop_rounds 1 ?_
      rw [rounds_succ]
      go_wp2
      go_ret
      exact ⟨ret_i64 HE.out.symm, Kept.refl _⟩
    · have HR := Lib.hid hr
      have HL := Lib.hid hl
      clear hr hl
      go_enter Tryd.func15, Tryd.ntmps15
      go_wp2
      go_loopw [10] (fun i wr => ∃ k : Nat, k ≤ len ∧ i = .int .i64 k ∧ chkFrom (prevP l k) (l.drop k) = chkFrom none l ∧ Kept w wr) (fun i _ => len - (intOf i).toNat)
      case atStart => exact ⟨0, Nat.zero_le _, rfl, rfl, Kept.refl _⟩
      case round =>
        obtain ⟨k, hk, rfl, hrest, hK⟩ := hrel
        by_cases hlt : k < len
        · obtain ⟨x, y, hx, hd, hb, hz, hz2, c1, c2⟩ := (HR.out.kept hK).pair hlt
          have HX := Lib.hid hx
          have HK := Lib.hid hK
          have HT := Lib.hid (hrest.symm.trans (congrArg (chkFrom (prevP l k)) hd))
          have HS := Lib.hid (HV.out.trans HT.out)
          clear hK hrest hx hd
          by_cases n1 : isName x = true
          · by_cases n2 : isName y = true
            · have N1 := Lib.hid n1
              have N2 := Lib.hid n2
              by_cases h0 : k = 0
              · have hd : decide (0 < k) = false := by subst h0; decide
                have HP := Lib.hid (behind_zero (l := l) h0 x)
                clear h0
                go_wp2_with (go_at_call 32; refine (name_any _ _ (by assumption)).mono ?_; rintro e w' ⟨rfl, rfl⟩)
                go_quiet (fail)
                go_wp2
                go_roundw
                case rel => exact ⟨k + 1, by omega, by go_num, by rw [prev_succ HX.out]; exact (chk_next N1.out N2.out HP.out).symm.trans HT.out.symm, (HK.out.trans (kept_alloc_drew _ _ _))⟩
                case measure => simp [intOf]; omega
              · have hd : decide (0 < k) = true := by simp; omega
                have g1 : 0 ≤ (k : Int) - 1 := by omega
                have g2 : (k : Int) - 1 < (len : Int) := by omega
                have g3 : ((k : Int) - 1).toNat = k - 1 := by omega
                obtain ⟨px, py, hpx, _, _, _, _, d1, d2⟩ := (HR.out.kept HK.out).pair (show k - 1 < len by omega)
                have HP := Lib.hid (behind_prev (l := l) h0 hpx x)
                clear hpx
                by_cases n3 : leS x px = true
                · have n3' : (Op.bytesLess x.toList px.toList || x.toList == px.toList) = true := n3
                  have N3 := Lib.hid n3
                  clear n3
                  go_wp2_with (go_at_call 32; refine (name_any _ _ (by assumption)).mono ?_; rintro e w' ⟨rfl, rfl⟩)
                  go_quiet (fail)
                  go_wp2
                  go_ret
                  exact ⟨ret_i64 (HS.out.trans (chk_order N1.out N2.out (HP.out.trans N3.out))).symm, (HK.out.trans (kept_alloc_drew _ _ _))⟩
                · have n3 : leS x px = false := by simpa using n3
                  have n3' : (Op.bytesLess x.toList px.toList || x.toList == px.toList) = false := n3
                  have N3 := Lib.hid n3
                  clear n3
                  go_wp2_with (go_at_call 32; refine (name_any _ _ (by assumption)).mono ?_; rintro e w' ⟨rfl, rfl⟩)
                  go_quiet (fail)
                  go_wp2
                  go_roundw
                  case rel => exact ⟨k + 1, by omega, by go_num, by rw [prev_succ HX.out]; exact (chk_next N1.out N2.out (HP.out.trans N3.out)).symm.trans HT.out.symm, (HK.out.trans (kept_alloc_drew _ _ _))⟩
                  case measure => simp [intOf]; omega
            · have n2 : isName y = false := by simpa using n2
              have N := Lib.hid (show (isName x && isName y) = false by rw [n2, Bool.and_false])
              go_wp2_with (go_at_call 32; refine (name_any _ _ (by assumption)).mono ?_; rintro e w' ⟨rfl, rfl⟩)
              go_ret
              exact ⟨ret_i64 (HS.out.trans (chk_name N.out)).symm, HK.out.trans (kept_alloc _ _)⟩
          · have n1 : isName x = false := by simpa using n1
            have N := Lib.hid (show (isName x && isName y) = false by rw [n1, Bool.false_and])
            go_wp2_with (go_at_call 32; refine (name_any x _ hz).mono ?_; rintro e w' ⟨rfl, rfl⟩)
            go_ret
            exact ⟨ret_i64 (HS.out.trans (chk_name N.out)).symm, HK.out.trans (kept_alloc _ _)⟩
        · have HK := Lib.hid hK
          have HS := Lib.hid ((HV.out.trans hrest.symm).trans (congrArg (chkFrom (prevP l k)) (drop_end (by rw [HL.out]; exact hlt))))
          clear hK hrest
          go_wp2
          go_ret
          exact ⟨ret_i64 (HS.out.trans rfl).symm, HK.out⟩
  · have HV := Lib.hid (show chkS l = 4 by unfold chkS; rw [if_pos (by omega)])
    have h9 : 8 < len := by omega
    clear h8 hr hl
    go_enter Tryd.func15, Tryd.ntmps15
    go_wp2
    go_ret
    exact ⟨ret_i64 HV.out.symm, Kept.refl _⟩

end Go.Proofs.YtmmjcomoabfmnaaDoor
