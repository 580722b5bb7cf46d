/- Package by package: contracts of the functions that the laws call. -/
import Derived.Test.YtfpgekjhcfoohaaGreatShort
import Derived.Test.YtfpgekjhcfoohaaGreatBase
import Derived.Lib.Split
import Derived.Lib.Join
import Derived.Lib.Strings
import Derived.Lib.ParseIntB
import Derived.Lib.ItoaNum
import Derived.Deep.RegionHeld3
import Derived.Recover
import Derived.Defers
import Derived.Laws.Pointers
import Derived.StillTailTactics
import Derived.WalkKit
import Derived.ProofKit
import Derived.OpenShut
import Derived.ChangeOld
import Derived.ChangeMaps5
import Derived.Below
import Derived.Deep.Slices
import Derived.Deep.Fields
import Derived.ChangeSame
import Derived.Lib.LaidTab
import Derived.Stop.Joined
import Derived.Shelf.Vars
import Derived.MakeChecks
import Derived.LaidLaws
import Derived.RowKitTokens
/- Labels and selectors read by package label: whether they may be, what a key has, what a term holds of. -/
set_option linter.unusedVariables false
namespace Go.Proofs.YtfpgekjhcfoohaaGreat
open Go.RowKit
abbrev PL := List (ByteArray × ByteArray)
abbrev TL := List (Int × ByteArray × ByteArray)
def behindB (prev : Option ByteArray) (s : ByteArray) : Bool := match prev with | none => false | some p => leS s p
def prevP (l : PL) (k : Nat) : Option ByteArray := if k = 0 then none else (l[k - 1]?).map (·.1)
def chkFrom : Option ByteArray → PL → Int
 | _, [] => 0
 | prev, x :: t => if (isName x.1 && isName x.2) = false then 3 else if behindB prev x.1 = true then 13 else chkFrom (some x.1) t
def chkS (l : PL) : Int := if 8 < l.length then 4 else chkFrom none l
theorem behind_zero {l : PL} {k : Nat} (h : k = 0) (s : ByteArray) : behindB (prevP l k) s = false := by unfold prevP; rw [if_pos h]; rfl
theorem behind_prev {l : PL} {k : Nat} {x y : ByteArray} (h : ¬ k = 0) (hx : l[k - 1]? = some (x, y)) (s : ByteArray) : behindB (prevP l k) s = leS s x := by unfold prevP; rw [if_neg h, hx]; rfl
theorem prev_succ {l : PL} {k : Nat} {x y : ByteArray} (hx : l[k]? = some (x, y)) : prevP l (k + 1) = some x := by unfold prevP; rw [if_neg (by omega), Nat.add_sub_cancel, hx]; rfl
theorem chk_name {p : Option ByteArray} {x y : ByteArray} {t : PL} (n : (isName x && isName y) = false) : chkFrom p ((x, y) :: t) = 3 := by rw [chkFrom, if_pos n]
theorem chk_order {p : Option ByteArray} {x y : ByteArray} {t : PL} (n1 : isName x = true) (n2 : isName y = true) (b : behindB p x = true) : chkFrom p ((x, y) :: t) = 13 := by
 rw [chkFrom, if_neg (by dsimp only; rw [n1, n2]; decide), if_pos b]
theorem chk_next {p : Option ByteArray} {x y : ByteArray} {t : PL} (n1 : isName x = true) (n2 : isName y = true) (b : behindB p x = false) : chkFrom p ((x, y) :: t) = chkFrom (some x) t := by
 rw [chkFrom, if_neg (by dsimp only; rw [n1, n2]; decide), if_neg (by dsimp only; rw [b]; decide)]
set_option maxHeartbeats 800000 in
theorem check_any (a : Option Addr) (len cap : Nat) (l : PL) (w : World) (hr : RowAt PairLay w a len l) :
 Calls Tryz.prog 62 #[.slice a len cap] w fun e w' => e = .returned (.int .i64 (chkS l)) ∧ Kept w w' := by
 have hl := hr.1
 have hm := hr.2.1
 unfold maxLen at hm
 by_cases h8 : len ≤ 8
 · have HV := lH (show chkS l = chkFrom none l by unfold chkS; rw [if_neg (by omega)])
   rcases hr.form with h0 | ⟨b, off, rfl⟩
   · subst h0
     have HE := lH (show chkS l = 0 by rw [HV.out]; rw [List.eq_nil_of_length_eq_zero hl]; rfl)
     clear hr hl
     go_enter Tryz.func62, Tryz.ntmps62
     go_wp2
     refine wp_loop_rounds 1 ?_
     rw [rounds_succ]
     go_wp2
     go_ret
     exact ⟨ret_i64 HE.out.symm, Kept.refl _⟩
   · have HR := lH hr
     have HL := lH hl
     clear hr hl
     go_enter Tryz.func62, Tryz.ntmps62
     go_wp2
     go_loopw [10] (fun i wr => ∃ k : Nat, k ≤ len ∧ i = .int .i64 k ∧ chkFrom (prevP l k) (l.drop k) = chkFrom none l ∧ Kept w wr) (fun i _ => len - (intOf i).toNat)
     case atStart => exact ⟨0, Nat.zero_le _, rfl, rfl, Kept.refl _⟩
     case round =>
      obtain ⟨k, hk, rfl, hrest, hK⟩ := hrel
      by_cases hlt : k < len
      · obtain ⟨x, y, hx, hd, hb, hz, hz2, c1, c2⟩ := (HR.out.kept hK).pair hlt
        have HX := lH hx
        have HK := lH hK
        have HT := lH (hrest.symm.trans (congrArg (chkFrom (prevP l k)) hd))
        have HS := lH (HV.out.trans HT.out)
        clear hK hrest hx hd
        by_cases n1 : isName x = true
        · by_cases n2 : isName y = true
          · have N1 := lH n1
            have N2 := lH n2
            by_cases h0 : k = 0
            · have hd : decide (0 < k) = false := by subst h0; decide
              have HP := lH (behind_zero (l := l) h0 x)
              clear h0
              go_wp2_with (go_at_call 125; refine (name_any _ _ (by assumption)).mono ?_; rintro e w' ⟨rfl, rfl⟩)
              go_quiet (fail)
              go_wp2
              go_roundw
              case rel => exact ⟨k + 1, by omega, by go_num, by rw [prev_succ HX.out]; exact (chk_next N1.out N2.out HP.out).symm.trans HT.out.symm, (HK.out.trans (kept_alloc_drew _ _ _))⟩
              case measure => simp [intOf]; omega
            · have hd : decide (0 < k) = true := by simp; omega
              have g1 : 0 ≤ (k : Int) - 1 := by omega
              have g2 : (k : Int) - 1 < (len : Int) := by omega
              have g3 : ((k : Int) - 1).toNat = k - 1 := by omega
              obtain ⟨px, py, hpx, _, _, _, _, d1, d2⟩ := (HR.out.kept HK.out).pair (show k - 1 < len by omega)
              have HP := lH (behind_prev (l := l) h0 hpx x)
              clear hpx
              by_cases n3 : leS x px = true
              · have n3' : (Op.bytesLess x.toList px.toList || x.toList == px.toList) = true := n3
                have N3 := lH n3
                clear n3
                go_wp2_with (go_at_call 125; refine (name_any _ _ (by assumption)).mono ?_; rintro e w' ⟨rfl, rfl⟩)
                go_quiet (fail)
                go_wp2
                go_ret
                exact ⟨ret_i64 (HS.out.trans (chk_order N1.out N2.out (HP.out.trans N3.out))).symm, (HK.out.trans (kept_alloc_drew _ _ _))⟩
              · have n3 : leS x px = false := by simpa using n3
                have n3' : (Op.bytesLess x.toList px.toList || x.toList == px.toList) = false := n3
                have N3 := lH n3
                clear n3
                go_wp2_with (go_at_call 125; refine (name_any _ _ (by assumption)).mono ?_; rintro e w' ⟨rfl, rfl⟩)
                go_quiet (fail)
                go_wp2
                go_roundw
                case rel => exact ⟨k + 1, by omega, by go_num, by rw [prev_succ HX.out]; exact (chk_next N1.out N2.out (HP.out.trans N3.out)).symm.trans HT.out.symm, (HK.out.trans (kept_alloc_drew _ _ _))⟩
                case measure => simp [intOf]; omega
          · have n2 : isName y = false := by simpa using n2
            have N := lH (show (isName x && isName y) = false by rw [n2, Bool.and_false])
            go_wp2_with (go_at_call 125; refine (name_any _ _ (by assumption)).mono ?_; rintro e w' ⟨rfl, rfl⟩)
            go_ret
            exact ⟨ret_i64 (HS.out.trans (chk_name N.out)).symm, HK.out.trans (kept_alloc _ _)⟩
        · have n1 : isName x = false := by simpa using n1
          have N := lH (show (isName x && isName y) = false by rw [n1, Bool.false_and])
          go_wp2_with (go_at_call 125; refine (name_any x _ hz).mono ?_; rintro e w' ⟨rfl, rfl⟩)
          go_ret
          exact ⟨ret_i64 (HS.out.trans (chk_name N.out)).symm, HK.out.trans (kept_alloc _ _)⟩
      · have HK := lH hK
        have HS := lH ((HV.out.trans hrest.symm).trans (congrArg (chkFrom (prevP l k)) (drop_end (by rw [HL.out]; exact hlt))))
        clear hK hrest
        go_wp2
        go_ret
        exact ⟨ret_i64 (HS.out.trans rfl).symm, HK.out⟩
 · have HV := lH (show chkS l = 4 by unfold chkS; rw [if_pos (by omega)])
   have h9 : 8 < len := by omega
   clear h8 hr hl
   go_enter Tryz.func62, Tryz.ntmps62
   go_wp2
   go_ret
   exact ⟨ret_i64 HV.out.symm, Kept.refl _⟩
open Go.RowKit
abbrev TV (o : Int) (x y : ByteArray) : Value := .agg #[.int .i64 o, .string x, .string y]
def chkT (t : Int × ByteArray × ByteArray) : Int :=
 if t.1 = 1 ∨ t.1 = 2 then (if (isName t.2.1 && isName t.2.2) = true then 0 else 3)
 else if t.1 = 3 ∨ t.1 = 4 then (if (isName t.2.1 && eqS t.2.2 ByteArray.empty) = true then 0 else 3)
 else 1
def chkLF : TL → Int
 | [] => 0
 | t :: r => if chkT t ≠ 0 then chkT t else chkLF r
def chkL (l : TL) : Int := if 8 < l.length then 4 else chkLF l
theorem err_ok (w : World) : Calls Tryz.prog 160 #[.bool true] w fun e w' => e = .returned (.int .i64 0) ∧ w = w' := by
 go_enter Tryz.func160, Tryz.ntmps160
 go_wp2
 go_ret
 exact ⟨rfl, rfl⟩
theorem err_bad (w : World) : Calls Tryz.prog 160 #[.bool false] w fun e w' => e = .returned (.int .i64 3) ∧ w = w' := by
 go_enter Tryz.func160, Tryz.ntmps160
 go_wp2
 go_ret
 exact ⟨rfl, rfl⟩
theorem chkT_eq {o : Int} {x y : ByteArray} : chkT (o, x, y) = if o = 1 ∨ o = 2 then (if (isName x && isName y) = true then 0 else 3)
 else if o = 3 ∨ o = 4 then (if (isName x && eqS y ByteArray.empty) = true then 0 else 3) else 1 := rfl
set_option maxHeartbeats 800000 in
theorem term_names (o : Int) (x y : ByteArray) (w : World) (ho : o = 1 ∨ o = 2) (hx : x.size ≤ maxLen) (hy : y.size ≤ maxLen) :
 Calls Tryz.prog 129 #[TV o x y] w fun e w' => e = .returned (.int .i64 (chkT (o, x, y))) ∧ Kept w w' := by
 by_cases n : (isName x && isName y) = true
 · have HV := lH (show chkT (o, x, y) = 0 by rw [chkT_eq, if_pos ho, if_pos n])
   have n1 : isName x = true := by rw [Bool.and_eq_true] at n; exact n.1
   have n2 : isName y = true := by rw [Bool.and_eq_true] at n; exact n.2
   clear n
   rcases ho with rfl | rfl <;>
    (go_enter Tryz.func129, Tryz.ntmps129
     go_wp2_with (first | (go_at_call 125; refine (name_any _ _ (by assumption)).mono ?_; rintro e w' ⟨rfl, rfl⟩) | (go_at_call 160; refine (err_ok _).mono ?_; rintro e w' ⟨rfl, rfl⟩))
     go_ret
     exact ⟨ret_i64 HV.out.symm, kept_alloc _ _⟩)
 · have HV := lH (show chkT (o, x, y) = 3 by rw [chkT_eq, if_pos ho, if_neg n])
   by_cases n1 : isName x = true
   · have n2 : isName y = false := by rw [n1, Bool.true_and] at n; simpa using n
     clear n
     rcases ho with rfl | rfl <;>
      (go_enter Tryz.func129, Tryz.ntmps129
       go_wp2_with (first | (go_at_call 125; refine (name_any _ _ (by assumption)).mono ?_; rintro e w' ⟨rfl, rfl⟩) | (go_at_call 160; refine (err_bad _).mono ?_; rintro e w' ⟨rfl, rfl⟩))
       go_ret
       exact ⟨ret_i64 HV.out.symm, kept_alloc _ _⟩)
   · have n1 : isName x = false := by simpa using n1
     clear n
     rcases ho with rfl | rfl <;>
      (go_enter Tryz.func129, Tryz.ntmps129
       go_wp2_with (first | (go_at_call 125; refine (name_any _ _ (by assumption)).mono ?_; rintro e w' ⟨rfl, rfl⟩) | (go_at_call 160; refine (err_bad _).mono ?_; rintro e w' ⟨rfl, rfl⟩))
       go_ret
       exact ⟨ret_i64 HV.out.symm, kept_alloc _ _⟩)
set_option maxHeartbeats 800000 in
theorem term_key (o : Int) (x y : ByteArray) (w : World) (ho : o = 3 ∨ o = 4) (hx : x.size ≤ maxLen) (hy : y.size ≤ maxLen) :
 Calls Tryz.prog 129 #[TV o x y] w fun e w' => e = .returned (.int .i64 (chkT (o, x, y))) ∧ Kept w w' := by
 have ho' : ¬ (o = 1 ∨ o = 2) := by omega
 by_cases n : (isName x && eqS y ByteArray.empty) = true
 · have HV := lH (show chkT (o, x, y) = 0 by rw [chkT_eq, if_neg ho', if_pos ho, if_pos n])
   have n1 : isName x = true := by rw [Bool.and_eq_true] at n; exact n.1
   have n2 : (y.toList == ([] : List UInt8)) = true := by rw [Bool.and_eq_true] at n; have := n.2; unfold eqS at this; simpa using this
   clear n ho'
   rcases ho with rfl | rfl <;>
    (go_enter Tryz.func129, Tryz.ntmps129
     go_wp2_with (first | (go_at_call 125; refine (name_any _ _ (by assumption)).mono ?_; rintro e w' ⟨rfl, rfl⟩) | (go_at_call 160; refine (err_ok _).mono ?_; rintro e w' ⟨rfl, rfl⟩))
     go_ret
     exact ⟨ret_i64 HV.out.symm, kept_alloc _ _⟩)
 · have HV := lH (show chkT (o, x, y) = 3 by rw [chkT_eq, if_neg ho', if_pos ho, if_neg n])
   clear ho'
   by_cases n1 : isName x = true
   · have n2 : (y.toList == ([] : List UInt8)) = false := by rw [n1, Bool.true_and] at n; unfold eqS at n; simpa using n
     clear n
     rcases ho with rfl | rfl <;>
      (go_enter Tryz.func129, Tryz.ntmps129
       go_wp2_with (first | (go_at_call 125; refine (name_any _ _ (by assumption)).mono ?_; rintro e w' ⟨rfl, rfl⟩) | (go_at_call 160; refine (err_bad _).mono ?_; rintro e w' ⟨rfl, rfl⟩))
       go_ret
       exact ⟨ret_i64 HV.out.symm, kept_alloc _ _⟩)
   · have n1 : isName x = false := by simpa using n1
     clear n
     rcases ho with rfl | rfl <;>
      (go_enter Tryz.func129, Tryz.ntmps129
       go_wp2_with (first | (go_at_call 125; refine (name_any _ _ (by assumption)).mono ?_; rintro e w' ⟨rfl, rfl⟩) | (go_at_call 160; refine (err_bad _).mono ?_; rintro e w' ⟨rfl, rfl⟩))
       go_ret
       exact ⟨ret_i64 HV.out.symm, kept_alloc _ _⟩)
theorem term_other (o : Int) (x y : ByteArray) (w : World) (ho : ¬ (o = 1 ∨ o = 2)) (ho' : ¬ (o = 3 ∨ o = 4)) :
 Calls Tryz.prog 129 #[TV o x y] w fun e w' => e = .returned (.int .i64 (chkT (o, x, y))) ∧ Kept w w' := by
 have HV := lH (show chkT (o, x, y) = 1 by rw [chkT_eq, if_neg ho, if_neg ho'])
 have e1 : (o == 1) = false := by (have : o ≠ 1 := by omega); simpa using this
 have e2 : (o == 2) = false := by (have : o ≠ 2 := by omega); simpa using this
 have e3 : (o == 3) = false := by (have : o ≠ 3 := by omega); simpa using this
 have e4 : (o == 4) = false := by (have : o ≠ 4 := by omega); simpa using this
 clear ho ho'
 go_enter Tryz.func129, Tryz.ntmps129
 go_wp2
 go_ret
 exact ⟨ret_i64 HV.out.symm, kept_alloc _ _⟩
theorem checkTerm_any (o : Int) (x y : ByteArray) (w : World) (hx : x.size ≤ maxLen) (hy : y.size ≤ maxLen) :
 Calls Tryz.prog 129 #[TV o x y] w fun e w' => e = .returned (.int .i64 (chkT (o, x, y))) ∧ Kept w w' := by
 by_cases h1 : o = 1 ∨ o = 2
 · exact term_names o x y w h1 hx hy
 · by_cases h2 : o = 3 ∨ o = 4
   · exact term_key o x y w h2 hx hy
   · exact term_other o x y w h1 h2
theorem chkLF_cons (t : Int × ByteArray × ByteArray) (r : TL) : chkLF (t :: r) = if chkT t ≠ 0 then chkT t else chkLF r := rfl
set_option maxHeartbeats 800000 in
theorem checkSel_any (a : Option Addr) (len cap : Nat) (l : TL) (w : World) (hr : RowAt TermLay w a len l) :
 Calls Tryz.prog 63 #[.slice a len cap] w fun e w' => e = .returned (.int .i64 (chkL l)) ∧ Kept w w' := by
 have hl := hr.1
 have hm := hr.2.1
 unfold maxLen at hm
 by_cases h8 : len ≤ 8
 · have HV := lH (show chkL l = chkLF l by unfold chkL; rw [if_neg (by omega)])
   rcases hr.form with h0 | ⟨b, off, rfl⟩
   · subst h0
     have HE := lH (show chkL l = 0 by rw [HV.out]; rw [List.eq_nil_of_length_eq_zero hl]; rfl)
     clear hr hl
     go_enter Tryz.func63, Tryz.ntmps63
     go_wp2
     refine wp_loop_rounds 1 ?_
     rw [rounds_succ]
     go_wp2
     go_ret
     exact ⟨ret_i64 HE.out.symm, Kept.refl _⟩
   · have HR := lH hr
     have HL := lH hl
     clear hr hl
     go_enter Tryz.func63, Tryz.ntmps63
     go_wp2
     go_loopw [11] (fun i wr => ∃ k : Nat, k ≤ len ∧ i = .int .i64 k ∧ chkLF (l.drop k) = chkLF l ∧ Kept w wr) (fun i _ => len - (intOf i).toNat)
     case atStart => exact ⟨0, Nat.zero_le _, rfl, rfl, Kept.refl _⟩
     case round =>
      obtain ⟨k, hk, rfl, hrest, hK⟩ := hrel
      by_cases hlt : k < len
      · obtain ⟨o, x, y, hx, hd, hb, ho, hz, hz2, c1, c2, c3⟩ := (HR.out.kept hK).term hlt
        have HK := lH hK
        have HT := lH (hrest.symm.trans ((congrArg chkLF hd).trans (chkLF_cons _ _)))
        have HS := lH (HV.out.trans HT.out)
        clear hK hrest hx hd
        by_cases n : chkT (o, x, y) = 0
        · have N := lH n
          have n' : (chkT (o, x, y) != 0) = false := by simpa using n
          clear n
          go_wp2_with (go_at_call 129; refine (checkTerm_any o x y _ hz hz2).mono ?_; rintro e w1 ⟨rfl, k1⟩; have K1 := lH k1; clear k1)
          go_roundw
          case rel => exact ⟨k + 1, by omega, by go_num, (HT.out.trans (if_neg (by rw [N.out]; decide))).symm, HK.out.trans ((kept_alloc _ _).trans K1.out)⟩
          case measure => simp [intOf]; omega
        · have N := lH n
          have n' : (chkT (o, x, y) != 0) = true := by simpa using n
          clear n
          go_wp2_with (go_at_call 129; refine (checkTerm_any o x y _ hz hz2).mono ?_; rintro e w1 ⟨rfl, k1⟩; have K1 := lH k1; clear k1)
          go_ret
          exact ⟨ret_i64 (HS.out.trans (if_pos N.out)).symm, HK.out.trans ((kept_alloc _ _).trans K1.out)⟩
      · have HK := lH hK
        have HS := lH ((HV.out.trans hrest.symm).trans (congrArg chkLF (drop_end (by rw [HL.out]; exact hlt))))
        clear hK hrest
        go_wp2
        go_ret
        exact ⟨ret_i64 (HS.out.trans rfl).symm, HK.out⟩
 · have HV := lH (show chkL l = 4 by unfold chkL; rw [if_pos (by omega)])
   have h9 : 8 < len := by omega
   clear h8 hr hl
   go_enter Tryz.func63, Tryz.ntmps63
   go_wp2
   go_ret
   exact ⟨ret_i64 HV.out.symm, Kept.refl _⟩
open Go.RowKit
open Go.RowKit
open Go.RowKit
open Go.RowKit Go.Shelf
attribute [local go_sem] Oper.semAt_some
end Go.Proofs.YtfpgekjhcfoohaaGreat
/- parsed, at 46: every part's form, then the check. -/
namespace Go.Proofs.YtfpgekjhcfoohaaGreat
open Go.RowKit Go.Shelf
attribute [local go_sem] Oper.semAt_some
end Go.Proofs.YtfpgekjhcfoohaaGreat
/- parse: the closure, the recovery, the face. -/
namespace Go.Proofs.YtfpgekjhcfoohaaGreat
open Go.RowKit
open Go.RowKit
open Go.RowKit
theorem checkR {v : Value} {l : PL} {c : Int} {w : World} (h : Reads PairLay w v l) (hc : chkS l = c) :
 Calls Tryz.prog 62 #[v] w (Say (.int .i64 c) w) := by
 obtain ⟨a, cap, rfl, _, _, hr⟩ := h
 exact (check_any a _ cap l w hr).mono fun e w' ⟨he, k⟩ => ⟨by rw [he, hc], k⟩
theorem checkSelR {v : Value} {l : TL} {c : Int} {w : World} (h : Reads TermLay w v l) (hc : chkL l = c) :
 Calls Tryz.prog 63 #[v] w (Say (.int .i64 c) w) := by
 obtain ⟨a, cap, rfl, _, _, hr⟩ := h
 exact (checkSel_any a _ cap l w hr).mono fun e w' ⟨he, k⟩ => ⟨by rw [he, hc], k⟩
open Go.RowKit
def fewP (x : ByteArray × ByteArray) : Bool := decide (x.1.size ≤ 50) && decide (x.2.size ≤ 50)
def fewT (x : Int × ByteArray × ByteArray) : Bool := decide (x.2.1.size ≤ 50) && decide (x.2.2.size ≤ 50)
def fewS (l : PL) : Bool := decide (l.length ≤ 20) && l.all fewP
def fewL (l : TL) : Bool := decide (l.length ≤ 20) && l.all fewT
set_option maxHeartbeats 800000 in
theorem few_any (a : Option Addr) (len cap : Nat) (l : PL) (w : World) (hr : RowAt PairLay w a len l) :
 Calls Tryz.prog 55 #[.slice a len cap] w fun e w' => e = .returned (.bool (fewS l)) ∧ w = w' := by
 have hl := hr.1
 have hm := hr.2.1
 unfold maxLen at hm
 by_cases h20 : len ≤ 20
 · have HV := lH (show fewS l = l.all fewP by unfold fewS; rw [decide_eq_true (by omega)]; rfl)
   rcases hr.form with h0 | ⟨b, off, rfl⟩
   · subst h0
     have HE := lH (show fewS l = true by rw [HV.out, List.eq_nil_of_length_eq_zero hl]; rfl)
     clear hr hl
     go_enter Tryz.func55, Tryz.ntmps55
     go_wp2
     refine wp_loop_rounds 1 ?_
     rw [rounds_succ]
     go_wp2
     go_ret
     exact ⟨ret_bool HE.out.symm, rfl⟩
   · have HR := lH hr
     have HL := lH hl
     clear hr hl
     go_enter Tryz.func55, Tryz.ntmps55
     go_wp2
     go_loop [3] (fun i => ∃ k : Nat, k ≤ len ∧ i = .int .i64 k ∧ (l.drop k).all fewP = l.all fewP) (fun i => len - (intOf i).toNat)
     case atStart => exact ⟨0, Nat.zero_le _, rfl, rfl⟩
     case round =>
      obtain ⟨k, hk, rfl, hrest⟩ := hrel
      by_cases hlt : k < len
      · obtain ⟨x, y, hx, hd, hb, hz, hz2, c1, c2⟩ := HR.out.pair hlt
        have HT := lH (hrest.symm.trans ((congrArg (fun z => z.all fewP) hd).trans (all_cons _ _ _)))
        clear hrest hx hd
        unfold maxLen at hz hz2
        by_cases e : x.size ≤ 50
        · by_cases e2 : y.size ≤ 50
          · have E := lH (show fewP (x, y) = true by unfold fewP; rw [decide_eq_true e, decide_eq_true e2]; rfl)
            go_wp2
            go_round
            case rel => exact ⟨k + 1, by omega, by go_num, (HT.out.trans (by rw [E.out]; exact Bool.true_and _)).symm⟩
            case measure => simp [intOf]; omega
          · have E := lH (show fewP (x, y) = false by unfold fewP; rw [decide_eq_false e2]; exact Bool.and_false _)
            have e2' : 50 < y.size := by omega
            clear e2
            go_wp2
            go_ret
            exact ⟨ret_bool (HV.out.trans (HT.out.trans (by rw [E.out]; exact Bool.false_and _))).symm, rfl⟩
        · have E := lH (show fewP (x, y) = false by unfold fewP; rw [decide_eq_false e]; exact Bool.false_and _)
          have e' : 50 < x.size := by omega
          clear e
          go_wp2
          go_ret
          exact ⟨ret_bool (HV.out.trans (HT.out.trans (by rw [E.out]; exact Bool.false_and _))).symm, rfl⟩
      · have HS := lH ((HV.out.trans hrest.symm).trans (congrArg (fun z => z.all fewP) (drop_end (by rw [HL.out]; exact hlt))))
        clear hrest
        go_wp2
        go_ret
        exact ⟨ret_bool (HS.out.trans rfl).symm, rfl⟩
 · have HV := lH (show fewS l = false by unfold fewS; rw [decide_eq_false (by omega)]; rfl)
   have h9 : 20 < len := by omega
   clear h20 hr hl
   go_enter Tryz.func55, Tryz.ntmps55
   go_wp2
   go_ret
   exact ⟨ret_bool HV.out.symm, rfl⟩
set_option maxHeartbeats 800000 in
theorem fewSel_any (a : Option Addr) (len cap : Nat) (l : TL) (w : World) (hr : RowAt TermLay w a len l) :
 Calls Tryz.prog 56 #[.slice a len cap] w fun e w' => e = .returned (.bool (fewL l)) ∧ w = w' := by
 have hl := hr.1
 have hm := hr.2.1
 unfold maxLen at hm
 by_cases h20 : len ≤ 20
 · have HV := lH (show fewL l = l.all fewT by unfold fewL; rw [decide_eq_true (by omega)]; rfl)
   rcases hr.form with h0 | ⟨b, off, rfl⟩
   · subst h0
     have HE := lH (show fewL l = true by rw [HV.out, List.eq_nil_of_length_eq_zero hl]; rfl)
     clear hr hl
     go_enter Tryz.func56, Tryz.ntmps56
     go_wp2
     refine wp_loop_rounds 1 ?_
     rw [rounds_succ]
     go_wp2
     go_ret
     exact ⟨ret_bool HE.out.symm, rfl⟩
   · have HR := lH hr
     have HL := lH hl
     clear hr hl
     go_enter Tryz.func56, Tryz.ntmps56
     go_wp2
     go_loop [3] (fun i => ∃ k : Nat, k ≤ len ∧ i = .int .i64 k ∧ (l.drop k).all fewT = l.all fewT) (fun i => len - (intOf i).toNat)
     case atStart => exact ⟨0, Nat.zero_le _, rfl, rfl⟩
     case round =>
      obtain ⟨k, hk, rfl, hrest⟩ := hrel
      by_cases hlt : k < len
      · obtain ⟨o, x, y, hx, hd, hb, ho, hz, hz2, c0, c1, c2⟩ := HR.out.term hlt
        have HT := lH (hrest.symm.trans ((congrArg (fun z => z.all fewT) hd).trans (all_cons _ _ _)))
        clear hrest hx hd
        unfold maxLen at hz hz2
        by_cases e : x.size ≤ 50
        · by_cases e2 : y.size ≤ 50
          · have E := lH (show fewT (o, x, y) = true by unfold fewT; rw [decide_eq_true e, decide_eq_true e2]; rfl)
            go_wp2
            go_round
            case rel => exact ⟨k + 1, by omega, by go_num, (HT.out.trans (by rw [E.out]; exact Bool.true_and _)).symm⟩
            case measure => simp [intOf]; omega
          · have E := lH (show fewT (o, x, y) = false by unfold fewT; rw [decide_eq_false e2]; exact Bool.and_false _)
            have e2' : 50 < y.size := by omega
            clear e2
            go_wp2
            go_ret
            exact ⟨ret_bool (HV.out.trans (HT.out.trans (by rw [E.out]; exact Bool.false_and _))).symm, rfl⟩
        · have E := lH (show fewT (o, x, y) = false by unfold fewT; rw [decide_eq_false e]; exact Bool.false_and _)
          have e' : 50 < x.size := by omega
          clear e
          go_wp2
          go_ret
          exact ⟨ret_bool (HV.out.trans (HT.out.trans (by rw [E.out]; exact Bool.false_and _))).symm, rfl⟩
      · have HS := lH ((HV.out.trans hrest.symm).trans (congrArg (fun z => z.all fewT) (drop_end (by rw [HL.out]; exact hlt))))
        clear hrest
        go_wp2
        go_ret
        exact ⟨ret_bool (HS.out.trans rfl).symm, rfl⟩
 · have HV := lH (show fewL l = false by unfold fewL; rw [decide_eq_false (by omega)]; rfl)
   have h9 : 20 < len := by omega
   clear h20 hr hl
   go_enter Tryz.func56, Tryz.ntmps56
   go_wp2
   go_ret
   exact ⟨ret_bool HV.out.symm, rfl⟩
set_option maxHeartbeats 800000 in
theorem refCheckSet_any (a : Option Addr) (len cap : Nat) (l : PL) (w : World) (hr : RowAt PairLay w a len l) :
 Calls Tryz.prog 79 #[.slice a len cap] w fun e w' => e = .returned (.int .i64 (chkS l)) ∧ Kept w w' := by
 have hl := hr.1
 have hm := hr.2.1
 unfold maxLen at hm
 by_cases h8 : len ≤ 8
 · have HV := lH (show chkS l = chkFrom none l by unfold chkS; rw [if_neg (by omega)])
   rcases hr.form with h0 | ⟨b, off, rfl⟩
   · subst h0
     have HE := lH (show chkS l = 0 by rw [HV.out]; rw [List.eq_nil_of_length_eq_zero hl]; rfl)
     clear hr hl
     go_enter Tryz.func79, Tryz.ntmps79
     go_wp2
     refine wp_loop_rounds 1 ?_
     rw [rounds_succ]
     go_wp2
     go_ret
     exact ⟨ret_i64 HE.out.symm, Kept.refl _⟩
   · have HR := lH hr
     have HL := lH hl
     clear hr hl
     go_enter Tryz.func79, Tryz.ntmps79
     go_wp2
     go_loopw [3] (fun i wr => ∃ k : Nat, k ≤ len ∧ i = .int .i64 k ∧ chkFrom (prevP l k) (l.drop k) = chkFrom none l ∧ Kept w wr) (fun i _ => len - (intOf i).toNat)
     case atStart => exact ⟨0, Nat.zero_le _, rfl, rfl, Kept.refl _⟩
     case round =>
      obtain ⟨k, hk, rfl, hrest, hK⟩ := hrel
      by_cases hlt : k < len
      · obtain ⟨x, y, hx, hd, hb, hz, hz2, c1, c2⟩ := (HR.out.kept hK).pair hlt
        have HX := lH hx
        have HK := lH hK
        have HT := lH (hrest.symm.trans (congrArg (chkFrom (prevP l k)) hd))
        have HS := lH (HV.out.trans HT.out)
        clear hK hrest hx hd
        by_cases n1 : isName x = true
        · by_cases n2 : isName y = true
          · have N1 := lH n1
            have N2 := lH n2
            by_cases h0 : k = 0
            · have hd : decide (0 < k) = false := by subst h0; decide
              have HP := lH (behind_zero (l := l) h0 x)
              clear h0
              go_wp2_with (go_at_call 77; refine (refName_any _ _ (by assumption)).mono ?_; rintro e w' ⟨rfl, rfl⟩)
              go_quiet (fail)
              go_wp2
              go_roundw
              case rel => exact ⟨k + 1, by omega, by go_num, by rw [prev_succ HX.out]; exact (chk_next N1.out N2.out HP.out).symm.trans HT.out.symm, HK.out.trans (Kept.drewN _ _)⟩
              case measure => simp [intOf]; omega
            · have hd : decide (0 < k) = true := by simp; omega
              have g1 : 0 ≤ (k : Int) - 1 := by omega
              have g2 : (k : Int) - 1 < (len : Int) := by omega
              have g3 : ((k : Int) - 1).toNat = k - 1 := by omega
              obtain ⟨px, py, hpx, _, _, _, _, d1, d2⟩ := (HR.out.kept HK.out).pair (show k - 1 < len by omega)
              have HP := lH (behind_prev (l := l) h0 hpx x)
              clear hpx
              by_cases n3 : leS x px = true
              · have n3' : (Op.bytesLess x.toList px.toList || x.toList == px.toList) = true := n3
                have N3 := lH n3
                clear n3
                go_wp2_with (go_at_call 77; refine (refName_any _ _ (by assumption)).mono ?_; rintro e w' ⟨rfl, rfl⟩)
                go_quiet (fail)
                go_wp2
                go_ret
                exact ⟨ret_i64 (HS.out.trans (chk_order N1.out N2.out (HP.out.trans N3.out))).symm, HK.out.trans (Kept.drewN _ _)⟩
              · have n3 : leS x px = false := by simpa using n3
                have n3' : (Op.bytesLess x.toList px.toList || x.toList == px.toList) = false := n3
                have N3 := lH n3
                clear n3
                go_wp2_with (go_at_call 77; refine (refName_any _ _ (by assumption)).mono ?_; rintro e w' ⟨rfl, rfl⟩)
                go_quiet (fail)
                go_wp2
                go_roundw
                case rel => exact ⟨k + 1, by omega, by go_num, by rw [prev_succ HX.out]; exact (chk_next N1.out N2.out (HP.out.trans N3.out)).symm.trans HT.out.symm, HK.out.trans (Kept.drewN _ _)⟩
                case measure => simp [intOf]; omega
          · have n2 : isName y = false := by simpa using n2
            have N := lH (show (isName x && isName y) = false by rw [n2, Bool.and_false])
            go_wp2_with (go_at_call 77; refine (refName_any _ _ (by assumption)).mono ?_; rintro e w' ⟨rfl, rfl⟩)
            go_ret
            exact ⟨ret_i64 (HS.out.trans (chk_name N.out)).symm, HK.out⟩
        · have n1 : isName x = false := by simpa using n1
          have N := lH (show (isName x && isName y) = false by rw [n1, Bool.false_and])
          go_wp2_with (go_at_call 77; refine (refName_any x _ hz).mono ?_; rintro e w' ⟨rfl, rfl⟩)
          go_ret
          exact ⟨ret_i64 (HS.out.trans (chk_name N.out)).symm, HK.out⟩
      · have HK := lH hK
        have HS := lH ((HV.out.trans hrest.symm).trans (congrArg (chkFrom (prevP l k)) (drop_end (by rw [HL.out]; exact hlt))))
        clear hK hrest
        go_wp2
        go_ret
        exact ⟨ret_i64 (HS.out.trans rfl).symm, HK.out⟩
 · have HV := lH (show chkS l = 4 by unfold chkS; rw [if_pos (by omega)])
   have h9 : 8 < len := by omega
   clear h8 hr hl
   go_enter Tryz.func79, Tryz.ntmps79
   go_wp2
   go_ret
   exact ⟨ret_i64 HV.out.symm, Kept.refl _⟩
set_option maxHeartbeats 1600000 in
theorem refCheckSel_any (a : Option Addr) (len cap : Nat) (l : TL) (w : World) (hr : RowAt TermLay w a len l) :
 Calls Tryz.prog 80 #[.slice a len cap] w fun e w' => e = .returned (.int .i64 (chkL l)) ∧ Kept w w' := by
 have hl := hr.1
 have hm := hr.2.1
 unfold maxLen at hm
 by_cases h8 : len ≤ 8
 · have HV := lH (show chkL l = chkLF l by unfold chkL; rw [if_neg (by omega)])
   rcases hr.form with h0 | ⟨b, off, rfl⟩
   · subst h0
     have HE := lH (show chkL l = 0 by rw [HV.out]; rw [List.eq_nil_of_length_eq_zero hl]; rfl)
     clear hr hl
     go_enter Tryz.func80, Tryz.ntmps80
     go_wp2
     refine wp_loop_rounds 1 ?_
     rw [rounds_succ]
     go_wp2
     go_ret
     exact ⟨ret_i64 HE.out.symm, Kept.refl _⟩
   · have HR := lH hr
     have HL := lH hl
     clear hr hl
     go_enter Tryz.func80, Tryz.ntmps80
     go_wp2
     go_loopw [3] (fun i wr => ∃ k : Nat, k ≤ len ∧ i = .int .i64 k ∧ chkLF (l.drop k) = chkLF l ∧ Kept w wr) (fun i _ => len - (intOf i).toNat)
     case atStart => exact ⟨0, Nat.zero_le _, rfl, rfl, Kept.refl _⟩
     case round =>
      obtain ⟨k, hk, rfl, hrest, hK⟩ := hrel
      by_cases hlt : k < len
      · obtain ⟨o, x, y, hx, hd, hb, ho, hz, hz2, c1, c2, c3⟩ := (HR.out.kept hK).term hlt
        have HK := lH hK
        have HT := lH (hrest.symm.trans ((congrArg chkLF hd).trans (chkLF_cons _ _)))
        have HS := lH (HV.out.trans HT.out)
        clear hK hrest hx hd
        by_cases g1 : o < 1
        · have N := lH (show chkT (o, x, y) = 1 by rw [chkT_eq, if_neg (by omega), if_neg (by omega)])
          go_wp2_with (go_at_call 77; refine (refName_any _ _ (by assumption)).mono ?_; rintro e w' ⟨rfl, rfl⟩)
          go_ret
          exact ⟨ret_i64 (HS.out.trans ((if_pos (by rw [N.out]; decide)).trans N.out)).symm, HK.out.trans (kept_alloc _ _)⟩
        · by_cases g4 : 4 < o
          · have g1' : ¬ o < 1 := g1
            have N := lH (show chkT (o, x, y) = 1 by rw [chkT_eq, if_neg (by omega), if_neg (by omega)])
            go_wp2_with (go_at_call 77; refine (refName_any _ _ (by assumption)).mono ?_; rintro e w' ⟨rfl, rfl⟩)
            go_ret
            exact ⟨ret_i64 (HS.out.trans ((if_pos (by rw [N.out]; decide)).trans N.out)).symm, HK.out.trans (kept_alloc _ _)⟩
          · have hcase : (o = 1 ∨ o = 2) ∨ (o = 3 ∨ o = 4) := by omega
            clear g1 g4
            rcases hcase with hcase | hcase
            · have hc := hcase
              by_cases n1 : isName x = true
              · by_cases n2 : isName y = true
                · have NN := lH (show chkT (o, x, y) = 0 by rw [chkT_eq, if_pos hc, if_pos (by rw [n1, n2]; rfl)])
                  clear hc
                  rcases hcase with rfl | rfl
                  · have N := lH (NN.out)
                    go_wp2_with (go_at_call 77; refine (refName_any _ _ (by assumption)).mono ?_; rintro e w' ⟨rfl, rfl⟩)
                    go_roundw
                    case rel => exact ⟨k + 1, by omega, by go_num, (HT.out.trans (if_neg (by rw [N.out]; decide))).symm, HK.out.trans (kept_alloc _ _)⟩
                    case measure => simp [intOf]; omega
                  · have N := lH (NN.out)
                    go_wp2_with (go_at_call 77; refine (refName_any _ _ (by assumption)).mono ?_; rintro e w' ⟨rfl, rfl⟩)
                    go_roundw
                    case rel => exact ⟨k + 1, by omega, by go_num, (HT.out.trans (if_neg (by rw [N.out]; decide))).symm, HK.out.trans (kept_alloc _ _)⟩
                    case measure => simp [intOf]; omega
                · have n2 : isName y = false := by simpa using n2
                  have NN := lH (show chkT (o, x, y) = 3 by rw [chkT_eq, if_pos hc, if_neg (by rw [n2, Bool.and_false]; decide)])
                  clear hc
                  rcases hcase with rfl | rfl
                  · have N := lH (NN.out)
                    go_wp2_with (go_at_call 77; refine (refName_any _ _ (by assumption)).mono ?_; rintro e w' ⟨rfl, rfl⟩)
                    go_ret
                    exact ⟨ret_i64 (HS.out.trans ((if_pos (by rw [N.out]; decide)).trans N.out)).symm, HK.out.trans (kept_alloc _ _)⟩
                  · have N := lH (NN.out)
                    go_wp2_with (go_at_call 77; refine (refName_any _ _ (by assumption)).mono ?_; rintro e w' ⟨rfl, rfl⟩)
                    go_ret
                    exact ⟨ret_i64 (HS.out.trans ((if_pos (by rw [N.out]; decide)).trans N.out)).symm, HK.out.trans (kept_alloc _ _)⟩
              · have n1 : isName x = false := by simpa using n1
                have NN := lH (show chkT (o, x, y) = 3 by rw [chkT_eq, if_pos hc, if_neg (by rw [n1, Bool.false_and]; decide)])
                clear hc
                rcases hcase with rfl | rfl
                · have N := lH (NN.out)
                  go_wp2_with (go_at_call 77; refine (refName_any _ _ (by assumption)).mono ?_; rintro e w' ⟨rfl, rfl⟩)
                  go_ret
                  exact ⟨ret_i64 (HS.out.trans ((if_pos (by rw [N.out]; decide)).trans N.out)).symm, HK.out.trans (kept_alloc _ _)⟩
                · have N := lH (NN.out)
                  go_wp2_with (go_at_call 77; refine (refName_any _ _ (by assumption)).mono ?_; rintro e w' ⟨rfl, rfl⟩)
                  go_ret
                  exact ⟨ret_i64 (HS.out.trans ((if_pos (by rw [N.out]; decide)).trans N.out)).symm, HK.out.trans (kept_alloc _ _)⟩
            · have hc := hcase
              have hn : ¬ (o = 1 ∨ o = 2) := by omega
              by_cases n1 : isName x = true
              · by_cases n2 : eqS y ByteArray.empty = true
                · have NN := lH (show chkT (o, x, y) = 0 by rw [chkT_eq, if_neg hn, if_pos hc, if_pos (by rw [n1, n2]; rfl)])
                  have n2' : (y.toList == ([] : List UInt8)) = true := by unfold eqS at n2; simpa using n2
                  clear hc hn n2
                  rcases hcase with rfl | rfl
                  · have N := lH (NN.out)
                    go_wp2_with (go_at_call 77; refine (refName_any _ _ (by assumption)).mono ?_; rintro e w' ⟨rfl, rfl⟩)
                    go_roundw
                    case rel => exact ⟨k + 1, by omega, by go_num, (HT.out.trans (if_neg (by rw [N.out]; decide))).symm, HK.out.trans (kept_alloc _ _)⟩
                    case measure => simp [intOf]; omega
                  · have N := lH (NN.out)
                    go_wp2_with (go_at_call 77; refine (refName_any _ _ (by assumption)).mono ?_; rintro e w' ⟨rfl, rfl⟩)
                    go_roundw
                    case rel => exact ⟨k + 1, by omega, by go_num, (HT.out.trans (if_neg (by rw [N.out]; decide))).symm, HK.out.trans (kept_alloc _ _)⟩
                    case measure => simp [intOf]; omega
                · have n2 : eqS y ByteArray.empty = false := by simpa using n2
                  have NN := lH (show chkT (o, x, y) = 3 by rw [chkT_eq, if_neg hn, if_pos hc, if_neg (by rw [n2, Bool.and_false]; decide)])
                  have n2' : (y.toList == ([] : List UInt8)) = false := by unfold eqS at n2; simpa using n2
                  clear hc hn n2
                  rcases hcase with rfl | rfl
                  · have N := lH (NN.out)
                    go_wp2_with (go_at_call 77; refine (refName_any _ _ (by assumption)).mono ?_; rintro e w' ⟨rfl, rfl⟩)
                    go_ret
                    exact ⟨ret_i64 (HS.out.trans ((if_pos (by rw [N.out]; decide)).trans N.out)).symm, HK.out.trans (kept_alloc _ _)⟩
                  · have N := lH (NN.out)
                    go_wp2_with (go_at_call 77; refine (refName_any _ _ (by assumption)).mono ?_; rintro e w' ⟨rfl, rfl⟩)
                    go_ret
                    exact ⟨ret_i64 (HS.out.trans ((if_pos (by rw [N.out]; decide)).trans N.out)).symm, HK.out.trans (kept_alloc _ _)⟩
              · have n1 : isName x = false := by simpa using n1
                have NN := lH (show chkT (o, x, y) = 3 by rw [chkT_eq, if_neg hn, if_pos hc, if_neg (by rw [n1, Bool.false_and]; decide)])
                clear hc hn
                rcases hcase with rfl | rfl
                · have N := lH (NN.out)
                  go_wp2_with (go_at_call 77; refine (refName_any _ _ (by assumption)).mono ?_; rintro e w' ⟨rfl, rfl⟩)
                  go_ret
                  exact ⟨ret_i64 (HS.out.trans ((if_pos (by rw [N.out]; decide)).trans N.out)).symm, HK.out.trans (kept_alloc _ _)⟩
                · have N := lH (NN.out)
                  go_wp2_with (go_at_call 77; refine (refName_any _ _ (by assumption)).mono ?_; rintro e w' ⟨rfl, rfl⟩)
                  go_ret
                  exact ⟨ret_i64 (HS.out.trans ((if_pos (by rw [N.out]; decide)).trans N.out)).symm, HK.out.trans (kept_alloc _ _)⟩
      · have HK := lH hK
        have HS := lH ((HV.out.trans hrest.symm).trans (congrArg chkLF (drop_end (by rw [HL.out]; exact hlt))))
        clear hK hrest
        go_wp2
        go_ret
        exact ⟨ret_i64 (HS.out.trans rfl).symm, HK.out⟩
 · have HV := lH (show chkL l = 4 by unfold chkL; rw [if_pos (by omega)])
   have h9 : 8 < len := by omega
   clear h8 hr hl
   go_enter Tryz.func80, Tryz.ntmps80
   go_wp2
   go_ret
   exact ⟨ret_i64 HV.out.symm, Kept.refl _⟩
open Go.RowKit
theorem refInfoP : (Tryz.prog.info? 194).map (fun i => (i.zero, i.size, i.bytes)) = some (some (.agg #[.string ByteArray.empty, .string ByteArray.empty]), 2, 32) := by kernel_rfl
set_option maxRecDepth 100000 in
set_option maxHeartbeats 1600000 in
theorem of_own (a : Option Addr) (len cap : Nat) (l : PL) (w : World) (hr : RowAt PairLay w a len l) (hlen : len ≤ 1000000) :
 Calls Tryz.prog 83 #[.slice a len cap] w (fun e w' => ∃ x, e = .returned x ∧ Own PairLay 194 w' w.heap.size x l ∧ Kept w w') := by
 have hl := hr.1
 obtain ⟨i0, hi, hz0, hz1, hz2'⟩ := info_parts refInfoP
 rcases hr.form with h0 | ⟨b, off, rfl⟩
 · subst h0
   have hl0 : l = [] := List.eq_nil_of_length_eq_zero hl
   subst hl0
   clear hr hl hi hz0 hz1 hz2'
   go_enter Tryz.func83, Tryz.ntmps83
   go_wp2
   refine wp_loop_rounds 1 ?_
   rw [rounds_succ]
   go_wp2
   go_ret
   exact ⟨_, rfl, Own.nil _ _ _, Kept.refl _⟩
 · have HR := lH hr
   have HL := lH hl
   clear hr hl
   go_enter Tryz.func83, Tryz.ntmps83
   go_wp2
   go_loopw [3, 4] (fun v i wr => ∃ k : Nat, k ≤ len ∧ i = .int .i64 k ∧ Own PairLay 194 wr w.heap.size v (l.take k) ∧ Below w.heap.size w wr) (fun _ i _ => len - (intOf i).toNat)
   case atStart => exact ⟨0, Nat.zero_le _, rfl, Own.nil _ _ _, Below.refl _ _⟩
   case round =>
    obtain ⟨k, hk, rfl, ho, hB⟩ := hrel
    have HO := lH ho
    have HB := lH hB
    have HT := lH (show (l.take k).length = k by rw [List.length_take, HL.out]; omega)
    have HOWN := lH (show wr.ownsRow w.heap.size 194 2 u3 k (rowCells PairLay (l.take k)) by have := HO.out.1; rw [HT.out] at this; exact this)
    by_cases hlt : k < len
    · obtain ⟨x, y, hx, hd, hb, hz, hz2, c1, c2⟩ := (HR.out.kept hB).pair hlt
      have HX := lH hx
      have hbw : b < w.heap.size := by obtain ⟨z, _, _, h, _⟩ := HR.out.cells hlt; exact h
      have hbase : w.heap.size ≤ wr.heap.size := hB.size
      have HNE := lH (show u3.ownBlock ≠ some b by
       intro e
       have := (HOWN.out.lt b e).1
       omega)
      have HBASE := lH (show w.heap.size ≤ (wr.alloc (.cells #[.string x, .string y] 194)).drew.heap.size by simp; omega)
      have HBD := lH (show Below w.heap.size w ((wr.alloc (.cells #[.string x, .string y] 194)).drew) from HB.out.trans (Below.mono ((kept_alloc wr _).trans (Kept.drewN _ 1)) hbase))
      have hk1 : (k : Int) < (len : Int) := by omega
      have HFK := lH (show PairLay.fine (x, y) from ⟨hz, hz2⟩)
      clear ho hB hx hd hz hz2
      go_wp2_with fail
      go_region_held3 (fun W => W.cell? ⟨b, off + k * 2, none⟩ = some (.string x) ∧ W.cell? ⟨b, off + k * 2 + 1, none⟩ = some (.string y))
       (first
         | go_keep
         | (go_split_ands
            refine ⟨?_, ?_⟩
            · (refine (hgrow.cell_far ⟨b, off + k * 2, none⟩ (by simp; omega) (Ne.symm HNE.out)).trans ?_; assumption)
            · (refine (hgrow.cell_far ⟨b, off + k * 2 + 1, none⟩ (by simp; omega) (Ne.symm HNE.out)).trans ?_; assumption)))
       ((refine step_append_lies _ (by rfl) _ _ _ (by rfl) w.heap.size 194 i0 _ 2 32 Tryz.underlying65 hi hz0 hz1 hz2' rfl (by decide) u3 k (rowCells PairLay (l.take k)) (by rfl) ((HOWN.out.alloc _).drew)
          ⟨wr.heap.size, 0, none⟩ 1 1 [.string x, .string y] (by rfl) (by rfl) (World.news_of_block (cs := #[.string x, .string y]) (t := 194) (fr := (0, 0)) (heap_alloc_new wr _)) (one_ss x y)
          (by decide) (by unfold maxLen; omega) (by omega) (by simp; omega) (wr.heap.size + 1) (by simp) ?_; intro gg cap1 w1 hown1 hgrow hat hlt1))
      all_goals
       go_wp2
       go_roundw
       case rel => exact ⟨k + 1, by omega, by go_num, by rw [take_snoc HX.out]; exact Own.snoc hown1 (by rw [HT.out]) HO.out.2 HFK.out, HBD.out.grown hgrow HBASE.out (fun j hj => (HOWN.out.lt j hj).1)⟩
       case measure => simp [intOf]; omega
    · have HK := lH (show l.take k = l by rw [List.take_of_length_le (by rw [HL.out]; omega)])
      clear ho hB
      go_wp2
      go_ret
      exact ⟨_, rfl, by have h := HO.out; rw [HK.out] at h; exact h, HB.out⟩
theorem refInfoT : (Tryz.prog.info? 163).map (fun i => (i.zero, i.size, i.bytes)) = some (some (.agg #[.int .i64 0, .string ByteArray.empty, .string ByteArray.empty]), 3, 40) := by kernel_rfl
set_option maxRecDepth 100000 in
set_option maxHeartbeats 1600000 in
theorem ofSel_own (a : Option Addr) (len cap : Nat) (l : TL) (w : World) (hr : RowAt TermLay w a len l) (hlen : len ≤ 1000000) :
 Calls Tryz.prog 84 #[.slice a len cap] w (fun e w' => ∃ x, e = .returned x ∧ Own TermLay 163 w' w.heap.size x l ∧ Kept w w') := by
 have hl := hr.1
 obtain ⟨i0, hi, hz0, hz1, hz2'⟩ := info_parts refInfoT
 rcases hr.form with h0 | ⟨b, off, rfl⟩
 · subst h0
   have hl0 : l = [] := List.eq_nil_of_length_eq_zero hl
   subst hl0
   clear hr hl hi hz0 hz1 hz2'
   go_enter Tryz.func84, Tryz.ntmps84
   go_wp2
   refine wp_loop_rounds 1 ?_
   rw [rounds_succ]
   go_wp2
   go_ret
   exact ⟨_, rfl, Own.nil _ _ _, Kept.refl _⟩
 · have HR := lH hr
   have HL := lH hl
   clear hr hl
   go_enter Tryz.func84, Tryz.ntmps84
   go_wp2
   go_loopw [3, 4] (fun v i wr => ∃ k : Nat, k ≤ len ∧ i = .int .i64 k ∧ Own TermLay 163 wr w.heap.size v (l.take k) ∧ Below w.heap.size w wr) (fun _ i _ => len - (intOf i).toNat)
   case atStart => exact ⟨0, Nat.zero_le _, rfl, Own.nil _ _ _, Below.refl _ _⟩
   case round =>
    obtain ⟨k, hk, rfl, ho, hB⟩ := hrel
    have HO := lH ho
    have HB := lH hB
    have HT := lH (show (l.take k).length = k by rw [List.length_take, HL.out]; omega)
    have HOWN := lH (show wr.ownsRow w.heap.size 163 3 u3 k (rowCells TermLay (l.take k)) by have := HO.out.1; rw [HT.out] at this; exact this)
    by_cases hlt : k < len
    · obtain ⟨o, x, y, hx, hd, hb, ho9, hz, hz2, c0, c1, c2⟩ := (HR.out.kept hB).term hlt
      have HX := lH hx
      have hbw : b < w.heap.size := by obtain ⟨z, _, _, h, _⟩ := HR.out.cells hlt; exact h
      have hbase : w.heap.size ≤ wr.heap.size := hB.size
      have HNE := lH (show u3.ownBlock ≠ some b by
       intro e
       have := (HOWN.out.lt b e).1
       omega)
      have HBASE := lH (show w.heap.size ≤ (wr.alloc (.cells #[.int .i64 o, .string x, .string y] 163)).drew.heap.size by simp; omega)
      have HBD := lH (show Below w.heap.size w ((wr.alloc (.cells #[.int .i64 o, .string x, .string y] 163)).drew) from HB.out.trans (Below.mono ((kept_alloc wr _).trans (Kept.drewN _ 1)) hbase))
      have hk1 : (k : Int) < (len : Int) := by omega
      have HFK := lH (show TermLay.fine (o, x, y) from ⟨ho9, hz, hz2⟩)
      clear ho hB hx hd hz hz2
      go_wp2_with fail
      go_region_held3 (fun W => W.cell? ⟨b, off + k * 3, none⟩ = some (.int .i64 o) ∧ W.cell? ⟨b, off + k * 3 + 1, none⟩ = some (.string x) ∧ W.cell? ⟨b, off + k * 3 + 2, none⟩ = some (.string y))
       (first
         | go_keep
         | (go_split_ands
            refine ⟨?_, ?_, ?_⟩
            · (refine (hgrow.cell_far ⟨b, off + k * 3, none⟩ (by simp; omega) (Ne.symm HNE.out)).trans ?_; assumption)
            · (refine (hgrow.cell_far ⟨b, off + k * 3 + 1, none⟩ (by simp; omega) (Ne.symm HNE.out)).trans ?_; assumption)
            · (refine (hgrow.cell_far ⟨b, off + k * 3 + 2, none⟩ (by simp; omega) (Ne.symm HNE.out)).trans ?_; assumption)))
       ((refine step_append_lies _ (by rfl) _ _ _ (by rfl) w.heap.size 163 i0 _ 3 40 Tryz.underlying66 hi hz0 hz1 hz2' rfl (by decide) u3 k (rowCells TermLay (l.take k)) (by rfl) ((HOWN.out.alloc _).drew)
          ⟨wr.heap.size, 0, none⟩ 1 1 [.int .i64 o, .string x, .string y] (by rfl) (by rfl) (World.news_of_block (cs := #[.int .i64 o, .string x, .string y]) (t := 163) (fr := (0, 0)) (heap_alloc_new wr _)) (one_iss o x y)
          (by decide) (by unfold maxLen; omega) (by omega) (by simp; omega) (wr.heap.size + 1) (by simp) ?_; intro gg cap1 w1 hown1 hgrow hat hlt1))
      all_goals
       go_wp2
       go_roundw
       case rel => exact ⟨k + 1, by omega, by go_num, by rw [take_snoc HX.out]; exact Own.snoc hown1 (by rw [HT.out]) HO.out.2 HFK.out, HBD.out.grown hgrow HBASE.out (fun j hj => (HOWN.out.lt j hj).1)⟩
       case measure => simp [intOf]; omega
    · have HK := lH (show l.take k = l by rw [List.take_of_length_le (by rw [HL.out]; omega)])
      clear ho hB
      go_wp2
      go_ret
      exact ⟨_, rfl, by have h := HO.out; rw [HK.out] at h; exact h, HB.out⟩
theorem fewR {v : Value} {l : PL} {w : World} (h : Reads PairLay w v l) : Calls Tryz.prog 55 #[v] w fun e w' => e = .returned (.bool (fewS l)) ∧ w = w' := by
 obtain ⟨a, cap, rfl, _, _, hr⟩ := h
 exact few_any a _ cap l w hr
theorem fewSelR {v : Value} {l : TL} {w : World} (h : Reads TermLay w v l) : Calls Tryz.prog 56 #[v] w fun e w' => e = .returned (.bool (fewL l)) ∧ w = w' := by
 obtain ⟨a, cap, rfl, _, _, hr⟩ := h
 exact fewSel_any a _ cap l w hr
theorem refCheckR {v : Value} {l : PL} {c : Int} {w : World} (h : Reads PairLay w v l) (hc : chkS l = c) : Calls Tryz.prog 79 #[v] w (Say (.int .i64 c) w) := by
 obtain ⟨a, cap, rfl, _, _, hr⟩ := h
 exact (refCheckSet_any a _ cap l w hr).mono fun e w' ⟨he, k⟩ => ⟨by rw [he, hc], k⟩
theorem refCheckSelR {v : Value} {l : TL} {c : Int} {w : World} (h : Reads TermLay w v l) (hc : chkL l = c) : Calls Tryz.prog 80 #[v] w (Say (.int .i64 c) w) := by
 obtain ⟨a, cap, rfl, _, _, hr⟩ := h
 exact (refCheckSel_any a _ cap l w hr).mono fun e w' ⟨he, k⟩ => ⟨by rw [he, hc], k⟩
open Go.RowKit
open Go.RowKit
open Go.RowKit
open Go.RowKit
open Go.RowKit
open Go.RowKit
open Go.RowKit
open Go.ChangeShapes Go.WideShapes Go.ChangeAt Go.RowKit Go.Deep
theorem cellsP : Tryz.prog.cellsOf 131 = 2 := by kernel_rfl
theorem cellsT : Tryz.prog.cellsOf 134 = 3 := by kernel_rfl
theorem cellsI : Tryz.prog.cellsOf 3 = 1 := by kernel_rfl
set_option maxRecDepth 100000 in
theorem pair_of_trod {H : Type} {enc : TypeId × Value → H} {w : World} {base fuel : Nat} {sp : Nat → Bool} {held : Bool} {cs : List Value} {x : DataW H × List MemPlace} (h : DataW.trod enc Tryz.prog w base sp held fuel 131 cs = some x) :
 ∃ a : ByteArray × ByteArray, cs = PairLay.cs a ∧ PairLay.fine a := by
 obtain ⟨ys, m, -, -, hlen, hyl, hf⟩ := DataW.trod_struct Tryz.underlying131 h
 rw [cellsP] at hlen
 match cs, hlen with
 | [c0, c1], _ =>
  have h0 : DataW.trod enc Tryz.prog w base sp held m 9 (([c0, c1].drop 0).take (Tryz.prog.cellsOf 9)) = ys[0]? := hf 0 _ rfl
  have h1 : DataW.trod enc Tryz.prog w base sp held m 9 (([c0, c1].drop 1).take (Tryz.prog.cellsOf 9)) = ys[1]? := hf 1 _ rfl
  rw [cellsS] at h0 h1
  obtain ⟨y0, e0⟩ : ∃ y, ys[0]? = some y := ⟨_, List.getElem?_eq_getElem (by rw [hyl]; decide)⟩
  obtain ⟨y1, e1⟩ : ∃ y, ys[1]? = some y := ⟨_, List.getElem?_eq_getElem (by rw [hyl]; decide)⟩
  rw [e0] at h0
  rw [e1] at h1
  obtain ⟨s, q0, -, hs⟩ := DataW.trod_string Tryz.underlying9 h0
  obtain ⟨t, q1, -, ht⟩ := DataW.trod_string Tryz.underlying9 h1
  simp only [List.drop_zero, List.take_succ_cons, List.take_zero, List.cons.injEq, and_true, List.drop_succ_cons] at q0 q1
  subst q0; subst q1
  exact ⟨(s, t), rfl, hs, ht⟩
set_option maxRecDepth 100000 in
theorem term_of_trod {H : Type} {enc : TypeId × Value → H} {w : World} {base fuel : Nat} {sp : Nat → Bool} {held : Bool} {cs : List Value} {x : DataW H × List MemPlace} (h : DataW.trod enc Tryz.prog w base sp held fuel 134 cs = some x) :
 ∃ a : Int × ByteArray × ByteArray, cs = TermLay.cs a ∧ TermLay.fine a := by
 obtain ⟨ys, m, -, -, hlen, hyl, hf⟩ := DataW.trod_struct Tryz.underlying134 h
 rw [cellsT] at hlen
 match cs, hlen with
 | [c0, c1, c2], _ =>
  have h0 : DataW.trod enc Tryz.prog w base sp held m 3 (([c0, c1, c2].drop 0).take (Tryz.prog.cellsOf 3)) = ys[0]? := hf 0 _ rfl
  have h1 : DataW.trod enc Tryz.prog w base sp held m 9 (([c0, c1, c2].drop 1).take (Tryz.prog.cellsOf 9)) = ys[1]? := hf 1 _ rfl
  have h2 : DataW.trod enc Tryz.prog w base sp held m 9 (([c0, c1, c2].drop 2).take (Tryz.prog.cellsOf 9)) = ys[2]? := hf 2 _ rfl
  rw [cellsS] at h1 h2
  rw [cellsI] at h0
  obtain ⟨y0, e0⟩ : ∃ y, ys[0]? = some y := ⟨_, List.getElem?_eq_getElem (by rw [hyl]; decide)⟩
  obtain ⟨y1, e1⟩ : ∃ y, ys[1]? = some y := ⟨_, List.getElem?_eq_getElem (by rw [hyl]; decide)⟩
  obtain ⟨y2, e2⟩ : ∃ y, ys[2]? = some y := ⟨_, List.getElem?_eq_getElem (by rw [hyl]; decide)⟩
  rw [e0] at h0
  rw [e1] at h1
  rw [e2] at h2
  obtain ⟨n, q0, -, hn⟩ := DataW.trod_int Tryz.underlying3 h0
  obtain ⟨s, q1, -, hs⟩ := DataW.trod_string Tryz.underlying9 h1
  obtain ⟨t, q2, -, ht⟩ := DataW.trod_string Tryz.underlying9 h2
  simp only [List.drop_zero, List.take_succ_cons, List.take_zero, List.cons.injEq, and_true, List.drop_succ_cons] at q0 q1 q2
  subst q0; subst q1; subst q2
  exact ⟨(n, s, t), rfl, bounds_i64 hn, hs, ht⟩
theorem set_of_trod {H : Type} {enc : TypeId × Value → H} {w : World} {base fuel : Nat} {sp : Nat → Bool} {held : Bool} {v : Value} {x : DataW H × List MemPlace} (h : DataW.trod enc Tryz.prog w base sp held fuel 40 [v] = some x) : ∃ l, Reads PairLay w v l :=
 reads_of_trod PairLay Tryz.underlying40 cellsP (fun _ _ _ h => pair_of_trod h) h
theorem sel_of_trod {H : Type} {enc : TypeId × Value → H} {w : World} {base fuel : Nat} {sp : Nat → Bool} {held : Bool} {v : Value} {x : DataW H × List MemPlace} (h : DataW.trod enc Tryz.prog w base sp held fuel 46 [v] = some x) : ∃ l, Reads TermLay w v l :=
 reads_of_trod TermLay Tryz.underlying46 cellsT (fun _ _ _ h => term_of_trod h) h
end Go.Proofs.YtfpgekjhcfoohaaGreat
