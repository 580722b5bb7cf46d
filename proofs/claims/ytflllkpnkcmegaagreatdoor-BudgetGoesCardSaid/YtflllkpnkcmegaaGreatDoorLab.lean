/- Package by package: contracts of the functions that the laws call. -/
import Derived.Test.YtflllkpnkcmegaaGreatDoorBase
import Derived.Deep.RegionHeld3
import Derived.Recover
import Derived.Defers
import Derived.Laws.Pointers
import Derived.StillTailTactics
import Derived.WalkKit
import Derived.ProofKit
import Derived.OpenShut
import Derived.ChangeOld
import Derived.ChangeMaps5
import Derived.Below
import Derived.Deep.Slices
import Derived.Deep.Fields
import Derived.ChangeSame
import Derived.Lib.LaidTab
import Derived.Stop.Joined
import Derived.Shelf.Vars
import Derived.MakeChecks
import Derived.LaidLaws
import Derived.RowKitTokens

/- Labels and selectors read by package label: whether they may be, what a key has, what a term holds of. -/
namespace Go.Proofs.YtflllkpnkcmegaaGreatDoor
open Go.RowKit
set_option linter.unusedVariables false

abbrev PL := List (ByteArray × ByteArray)
abbrev TL := List (Int × ByteArray × ByteArray)

def behindB (prev : Option ByteArray) (s : ByteArray) : Bool := match prev with | none => false | some p => leS s p
def prevP (l : PL) (k : Nat) : Option ByteArray := if k = 0 then none else (l[k - 1]?).map (·.1)
def chkFrom : Option ByteArray → PL → Int
  | _, [] => 0
  | prev, x :: t => if (isName x.1 && isName x.2) = false then 3 else if behindB prev x.1 = true then 13 else chkFrom (some x.1) t
def chkS (l : PL) : Int := if 8 < l.length then 4 else chkFrom none l

theorem behind_zero {l : PL} {k : Nat} (h : k = 0) (s : ByteArray) : behindB (prevP l k) s = false := by unfold prevP; rw [if_pos h]; rfl
theorem behind_prev {l : PL} {k : Nat} {x y : ByteArray} (h : ¬ k = 0) (hx : l[k - 1]? = some (x, y)) (s : ByteArray) : behindB (prevP l k) s = leS s x := by unfold prevP; rw [if_neg h, hx]; rfl
theorem prev_succ {l : PL} {k : Nat} {x y : ByteArray} (hx : l[k]? = some (x, y)) : prevP l (k + 1) = some x := by unfold prevP; rw [if_neg (by omega), Nat.add_sub_cancel, hx]; rfl
theorem chk_name {p : Option ByteArray} {x y : ByteArray} {t : PL} (n : (isName x && isName y) = false) : chkFrom p ((x, y) :: t) = 3 := by rw [chkFrom, if_pos n]
theorem chk_order {p : Option ByteArray} {x y : ByteArray} {t : PL} (n1 : isName x = true) (n2 : isName y = true) (b : behindB p x = true) : chkFrom p ((x, y) :: t) = 13 := by
  rw [chkFrom, if_neg (by dsimp only; rw [n1, n2]; decide), if_pos b]
theorem chk_next {p : Option ByteArray} {x y : ByteArray} {t : PL} (n1 : isName x = true) (n2 : isName y = true) (b : behindB p x = false) : chkFrom p ((x, y) :: t) = chkFrom (some x) t := by
  rw [chkFrom, if_neg (by dsimp only; rw [n1, n2]; decide), if_neg (by dsimp only; rw [b]; decide)]
end Go.Proofs.YtflllkpnkcmegaaGreatDoor

/- A selector's terms: whether they may be; what a key has; what holds. -/
namespace Go.Proofs.YtflllkpnkcmegaaGreatDoor
open Go.RowKit
set_option linter.unusedVariables false

abbrev TV (o : Int) (x y : ByteArray) : Value := .agg #[.int .i64 o, .string x, .string y]

def chkT (t : Int × ByteArray × ByteArray) : Int :=
  if t.1 = 1 ∨ t.1 = 2 then (if (isName t.2.1 && isName t.2.2) = true then 0 else 3)
  else if t.1 = 3 ∨ t.1 = 4 then (if (isName t.2.1 && eqS t.2.2 ByteArray.empty) = true then 0 else 3)
  else 1
def chkLF : TL → Int
  | [] => 0
  | t :: r => if chkT t ≠ 0 then chkT t else chkLF r
def chkL (l : TL) : Int := if 8 < l.length then 4 else chkLF l

theorem err_ok (w : World) : Calls Tryz.prog 158 #[.bool true] w fun e w' => e = .returned (.int .i64 0) ∧ w = w' := by
  go_enter Tryz.func158, Tryz.ntmps158
  go_wp2
  go_ret
  exact ⟨rfl, rfl⟩
theorem err_bad (w : World) : Calls Tryz.prog 158 #[.bool false] w fun e w' => e = .returned (.int .i64 3) ∧ w = w' := by
  go_enter Tryz.func158, Tryz.ntmps158
  go_wp2
  go_ret
  exact ⟨rfl, rfl⟩

theorem chkT_eq {o : Int} {x y : ByteArray} : chkT (o, x, y) = if o = 1 ∨ o = 2 then (if (isName x && isName y) = true then 0 else 3)
  else if o = 3 ∨ o = 4 then (if (isName x && eqS y ByteArray.empty) = true then 0 else 3) else 1 := rfl

set_option maxHeartbeats 800000 in
theorem term_names (o : Int) (x y : ByteArray) (w : World) (ho : o = 1 ∨ o = 2) (hx : x.size ≤ maxLen) (hy : y.size ≤ maxLen) :
    Calls Tryz.prog 109 #[TV o x y] w fun e w' => e = .returned (.int .i64 (chkT (o, x, y))) ∧ Kept w w' := by
  by_cases n : (isName x && isName y) = true
  · have HV := Lib.hid (show chkT (o, x, y) = 0 by rw [chkT_eq, if_pos ho, if_pos n])
    have n1 : isName x = true := by rw [Bool.and_eq_true] at n; exact n.1
    have n2 : isName y = true := by rw [Bool.and_eq_true] at n; exact n.2
    clear n
    rcases ho with rfl | rfl <;>
      (go_enter Tryz.func109, Tryz.ntmps109
       go_wp2_with (first | (go_at_call 104; refine (name_any _ _ (by assumption)).mono ?_; rintro e w' ⟨rfl, rfl⟩) | (go_at_call 158; refine (err_ok _).mono ?_; rintro e w' ⟨rfl, rfl⟩))
       go_ret
       exact ⟨ret_i64 HV.out.symm, kept_alloc _ _⟩)
  · have HV := Lib.hid (show chkT (o, x, y) = 3 by rw [chkT_eq, if_pos ho, if_neg n])
    by_cases n1 : isName x = true
    · have n2 : isName y = false := by rw [n1, Bool.true_and] at n; simpa using n
      clear n
      rcases ho with rfl | rfl <;>
        (go_enter Tryz.func109, Tryz.ntmps109
         go_wp2_with (first | (go_at_call 104; refine (name_any _ _ (by assumption)).mono ?_; rintro e w' ⟨rfl, rfl⟩) | (go_at_call 158; refine (err_bad _).mono ?_; rintro e w' ⟨rfl, rfl⟩))
         go_ret
         exact ⟨ret_i64 HV.out.symm, kept_alloc _ _⟩)
    · have n1 : isName x = false := by simpa using n1
      clear n
      rcases ho with rfl | rfl <;>
        (go_enter Tryz.func109, Tryz.ntmps109
         go_wp2_with (first | (go_at_call 104; refine (name_any _ _ (by assumption)).mono ?_; rintro e w' ⟨rfl, rfl⟩) | (go_at_call 158; refine (err_bad _).mono ?_; rintro e w' ⟨rfl, rfl⟩))
         go_ret
         exact ⟨ret_i64 HV.out.symm, kept_alloc _ _⟩)

set_option maxHeartbeats 800000 in
theorem term_key (o : Int) (x y : ByteArray) (w : World) (ho : o = 3 ∨ o = 4) (hx : x.size ≤ maxLen) (hy : y.size ≤ maxLen) :
    Calls Tryz.prog 109 #[TV o x y] w fun e w' => e = .returned (.int .i64 (chkT (o, x, y))) ∧ Kept w w' := by
  have ho' : ¬ (o = 1 ∨ o = 2) := by omega
  by_cases n : (isName x && eqS y ByteArray.empty) = true
  · have HV := Lib.hid (show chkT (o, x, y) = 0 by rw [chkT_eq, if_neg ho', if_pos ho, if_pos n])
    have n1 : isName x = true := by rw [Bool.and_eq_true] at n; exact n.1
    have n2 : (y.toList == ([] : List UInt8)) = true := by rw [Bool.and_eq_true] at n; have := n.2; unfold eqS at this; simpa using this
    clear n ho'
    rcases ho with rfl | rfl <;>
      (go_enter Tryz.func109, Tryz.ntmps109
       go_wp2_with (first | (go_at_call 104; refine (name_any _ _ (by assumption)).mono ?_; rintro e w' ⟨rfl, rfl⟩) | (go_at_call 158; refine (err_ok _).mono ?_; rintro e w' ⟨rfl, rfl⟩))
       go_ret
       exact ⟨ret_i64 HV.out.symm, kept_alloc _ _⟩)
  · have HV := Lib.hid (show chkT (o, x, y) = 3 by rw [chkT_eq, if_neg ho', if_pos ho, if_neg n])
    clear ho'
    by_cases n1 : isName x = true
    · have n2 : (y.toList == ([] : List UInt8)) = false := by rw [n1, Bool.true_and] at n; unfold eqS at n; simpa using n
      clear n
      rcases ho with rfl | rfl <;>
        (go_enter Tryz.func109, Tryz.ntmps109
         go_wp2_with (first | (go_at_call 104; refine (name_any _ _ (by assumption)).mono ?_; rintro e w' ⟨rfl, rfl⟩) | (go_at_call 158; refine (err_bad _).mono ?_; rintro e w' ⟨rfl, rfl⟩))
         go_ret
         exact ⟨ret_i64 HV.out.symm, kept_alloc _ _⟩)
    · have n1 : isName x = false := by simpa using n1
      clear n
      rcases ho with rfl | rfl <;>
        (go_enter Tryz.func109, Tryz.ntmps109
         go_wp2_with (first | (go_at_call 104; refine (name_any _ _ (by assumption)).mono ?_; rintro e w' ⟨rfl, rfl⟩) | (go_at_call 158; refine (err_bad _).mono ?_; rintro e w' ⟨rfl, rfl⟩))
         go_ret
         exact ⟨ret_i64 HV.out.symm, kept_alloc _ _⟩)

theorem term_other (o : Int) (x y : ByteArray) (w : World) (ho : ¬ (o = 1 ∨ o = 2)) (ho' : ¬ (o = 3 ∨ o = 4)) :
    Calls Tryz.prog 109 #[TV o x y] w fun e w' => e = .returned (.int .i64 (chkT (o, x, y))) ∧ Kept w w' := by
  have HV := Lib.hid (show chkT (o, x, y) = 1 by rw [chkT_eq, if_neg ho, if_neg ho'])
  have e1 : (o == 1) = false := by (have : o ≠ 1 := by omega); simpa using this
  have e2 : (o == 2) = false := by (have : o ≠ 2 := by omega); simpa using this
  have e3 : (o == 3) = false := by (have : o ≠ 3 := by omega); simpa using this
  have e4 : (o == 4) = false := by (have : o ≠ 4 := by omega); simpa using this
  clear ho ho'
  go_enter Tryz.func109, Tryz.ntmps109
  go_wp2
  go_ret
  exact ⟨ret_i64 HV.out.symm, kept_alloc _ _⟩

theorem checkTerm_any (o : Int) (x y : ByteArray) (w : World) (hx : x.size ≤ maxLen) (hy : y.size ≤ maxLen) :
    Calls Tryz.prog 109 #[TV o x y] w fun e w' => e = .returned (.int .i64 (chkT (o, x, y))) ∧ Kept w w' := by
  by_cases h1 : o = 1 ∨ o = 2
  · exact term_names o x y w h1 hx hy
  · by_cases h2 : o = 3 ∨ o = 4
    · exact term_key o x y w h2 hx hy
    · exact term_other o x y w h1 h2

theorem chkLF_cons (t : Int × ByteArray × ByteArray) (r : TL) : chkLF (t :: r) = if chkT t ≠ 0 then chkT t else chkLF r := rfl

set_option maxHeartbeats 800000 in
theorem checkSel_any (a : Option Addr) (len cap : Nat) (l : TL) (w : World) (hr : RowAt TermLay w a len l) :
    Calls Tryz.prog 59 #[.slice a len cap] w fun e w' => e = .returned (.int .i64 (chkL l)) ∧ Kept w w' := by
  have hl := hr.1
  have hm := hr.2.1
  unfold maxLen at hm
  by_cases h8 : len ≤ 8
  · have HV := Lib.hid (show chkL l = chkLF l by unfold chkL; rw [if_neg (by omega)])
    rcases hr.form with h0 | ⟨b, off, rfl⟩
    · subst h0
      have HE := Lib.hid (show chkL l = 0 by rw [HV.out]; rw [List.eq_nil_of_length_eq_zero hl]; rfl)
      clear hr hl
      go_enter Tryz.func59, Tryz.ntmps59
      go_wp2
      refine wp_loop_rounds 1 ?_
      rw [rounds_succ]
      go_wp2
      go_ret
      exact ⟨ret_i64 HE.out.symm, Kept.refl _⟩
    · have HR := Lib.hid hr
      have HL := Lib.hid hl
      clear hr hl
      go_enter Tryz.func59, Tryz.ntmps59
      go_wp2
      go_loopw [11] (fun i wr => ∃ k : Nat, k ≤ len ∧ i = .int .i64 k ∧ chkLF (l.drop k) = chkLF l ∧ Kept w wr) (fun i _ => len - (intOf i).toNat)
      case atStart => exact ⟨0, Nat.zero_le _, rfl, rfl, Kept.refl _⟩
      case round =>
        obtain ⟨k, hk, rfl, hrest, hK⟩ := hrel
        by_cases hlt : k < len
        · obtain ⟨o, x, y, hx, hd, hb, ho, hz, hz2, c1, c2, c3⟩ := (HR.out.kept hK).term hlt
          have HK := Lib.hid hK
          have HT := Lib.hid (hrest.symm.trans ((congrArg chkLF hd).trans (chkLF_cons _ _)))
          have HS := Lib.hid (HV.out.trans HT.out)
          clear hK hrest hx hd
          by_cases n : chkT (o, x, y) = 0
          · have N := Lib.hid n
            have n' : (chkT (o, x, y) != 0) = false := by simpa using n
            clear n
            go_wp2_with (go_at_call 109; refine (checkTerm_any o x y _ hz hz2).mono ?_; rintro e w1 ⟨rfl, k1⟩; have K1 := Lib.hid k1; clear k1)
            go_roundw
            case rel => exact ⟨k + 1, by omega, by go_num, (HT.out.trans (if_neg (by rw [N.out]; decide))).symm, HK.out.trans ((kept_alloc _ _).trans K1.out)⟩
            case measure => simp [intOf]; omega
          · have N := Lib.hid n
            have n' : (chkT (o, x, y) != 0) = true := by simpa using n
            clear n
            go_wp2_with (go_at_call 109; refine (checkTerm_any o x y _ hz hz2).mono ?_; rintro e w1 ⟨rfl, k1⟩; have K1 := Lib.hid k1; clear k1)
            go_ret
            exact ⟨ret_i64 (HS.out.trans (if_pos N.out)).symm, HK.out.trans ((kept_alloc _ _).trans K1.out)⟩
        · have HK := Lib.hid hK
          have HS := Lib.hid ((HV.out.trans hrest.symm).trans (congrArg chkLF (drop_end (by rw [HL.out]; exact hlt))))
          clear hK hrest
          go_wp2
          go_ret
          exact ⟨ret_i64 (HS.out.trans rfl).symm, HK.out⟩
  · have HV := Lib.hid (show chkL l = 4 by unfold chkL; rw [if_pos (by omega)])
    have h9 : 8 < len := by omega
    clear h8 hr hl
    go_enter Tryz.func59, Tryz.ntmps59
    go_wp2
    go_ret
    exact ⟨ret_i64 HV.out.symm, Kept.refl _⟩

/-- What a key has. -/
def getS : PL → ByteArray → Option ByteArray
  | [], _ => none
  | x :: t, n => if eqS x.1 n = true then some x.2 else getS t n
def getT (s : PL) (n : ByteArray) : ByteArray := (getS s n).getD ByteArray.empty
def hasS (s : PL) (n : ByteArray) : Bool := (getS s n).isSome
theorem getS_cons (x y : ByteArray) (t : PL) (n : ByteArray) : getS ((x, y) :: t) n = if eqS x n = true then some y else getS t n := rfl
theorem ret_get {s : PL} {n : ByteArray} {o : Option ByteArray} (h : getS s n = o) : Ending.returned (.tuple #[.string (o.getD ByteArray.empty), .bool o.isSome]) = .returned (.tuple #[.string (getT s n), .bool (hasS s n)]) := by
  unfold getT hasS; rw [h]
set_option maxHeartbeats 800000 in
theorem get_any (a : Option Addr) (len cap : Nat) (l : PL) (n : ByteArray) (w : World) (hr : RowAt PairLay w a len l) :
    Calls Tryz.prog 205 #[.slice a len cap, .string n] w fun e w' => e = .returned (.tuple #[.string (getT l n), .bool (hasS l n)]) ∧ Kept w w' := by
  have hl := hr.1
  have hm := hr.2.1
  unfold maxLen at hm
  rcases hr.form with h0 | ⟨b, off, rfl⟩
  · subst h0
    have HE := Lib.hid (show getS l n = none by rw [List.eq_nil_of_length_eq_zero hl]; rfl)
    clear hr hl
    go_enter Tryz.func205, Tryz.ntmps205
    go_wp2
    refine wp_loop_rounds 1 ?_
    rw [rounds_succ]
    go_wp2
    go_ret2
    exact ⟨ret_get HE.out, Kept.refl _⟩
  · have HR := Lib.hid hr
    have HL := Lib.hid hl
    clear hr hl
    go_enter Tryz.func205, Tryz.ntmps205
    go_wp2
    go_loopw [10] (fun i wr => ∃ k : Nat, k ≤ len ∧ i = .int .i64 k ∧ getS (l.drop k) n = getS l n ∧ Kept w wr) (fun i _ => len - (intOf i).toNat)
    case atStart => exact ⟨0, Nat.zero_le _, rfl, rfl, Kept.refl _⟩
    case round =>
      obtain ⟨k, hk, rfl, hrest, hK⟩ := hrel
      by_cases hlt : k < len
      · obtain ⟨x, y, hx, hd, hb, hz, hz2, c1, c2⟩ := (HR.out.kept hK).pair hlt
        have HK := Lib.hid hK
        have HT := Lib.hid (hrest.symm.trans ((congrArg (fun z => getS z n) hd).trans (getS_cons _ _ _ _)))
        clear hK hrest hx hd
        by_cases e : eqS x n = true
        · have E := Lib.hid e
          have e' : (x.toList == n.toList) = true := e
          clear e
          go_wp2
          go_ret2
          exact ⟨ret_get (HT.out.trans (if_pos E.out)), HK.out.trans (kept_alloc _ _)⟩
        · have E := Lib.hid e
          have e' : (x.toList == n.toList) = false := by unfold eqS at e; simpa using e
          clear e
          go_wp2
          go_roundw
          case rel => exact ⟨k + 1, by omega, by go_num, (HT.out.trans (if_neg E.out)).symm, HK.out.trans (kept_alloc _ _)⟩
          case measure => simp [intOf]; omega
      · have HK := Lib.hid hK
        have HS := Lib.hid (hrest.symm.trans (congrArg (fun z => getS z n) (drop_end (by rw [HL.out]; exact hlt))))
        clear hK hrest
        go_wp2
        go_ret2
        exact ⟨ret_get (HS.out.trans rfl), HK.out⟩

/-- What holds. -/
def holdsT (s : PL) (t : Int × ByteArray × ByteArray) : Bool :=
  if t.1 = 1 then hasS s t.2.1 && eqS (getT s t.2.1) t.2.2
  else if t.1 = 2 then !hasS s t.2.1 || !eqS (getT s t.2.1) t.2.2
  else if t.1 = 3 then hasS s t.2.1
  else if t.1 = 4 then !hasS s t.2.1 else false
theorem holdsT_eq {s : PL} {o : Int} {x y : ByteArray} : holdsT s (o, x, y) = if o = 1 then hasS s x && eqS (getT s x) y else if o = 2 then !hasS s x || !eqS (getT s x) y else if o = 3 then hasS s x else if o = 4 then !hasS s x else false := rfl

set_option maxHeartbeats 1600000 in
theorem holds_any (o : Int) (x y : ByteArray) (a : Option Addr) (len cap : Nat) (s : PL) (w : World) (hr : RowAt PairLay w a len s) :
    Calls Tryz.prog 182 #[TV o x y, .slice a len cap] w fun e w' => e = .returned (.bool (holdsT s (o, x, y))) ∧ Kept w w' := by
  have HG := Lib.hid (fun (w' : World) (k : Kept w w') => get_any a len cap s x w' (hr.kept k))
  obtain ⟨v, hv⟩ : ∃ v, getT s x = v := ⟨_, rfl⟩
  obtain ⟨h, hh⟩ : ∃ h, hasS s x = h := ⟨_, rfl⟩
  obtain ⟨q, hq⟩ : ∃ q, eqS v y = q := ⟨_, rfl⟩
  have hq' : (v.toList == y.toList) = q := hq
  rw [hv, hh] at HG
  clear hr
  by_cases h1 : o = 1
  · subst h1
    have HV := Lib.hid (show holdsT s (1, x, y) = (h && q) by rw [holdsT_eq, if_pos rfl, hv, hh, hq])
    clear hv hh hq
    cases h <;> cases q <;>
    (go_enter Tryz.func182, Tryz.ntmps182
     go_wp2_with (go_at_call 205; refine (HG.out _ (kept_alloc _ _)).mono ?_; rintro e w1 ⟨rfl, k1⟩; have K1 := Lib.hid k1; have c3 := cell_later k1 (show (w.alloc (.cells #[.int .i64 1, .string x, .string y] 89)).cell? ⟨w.heap.size, 2, none⟩ = some (.string y) by go_simp); have c0 := cell_later k1 (show (w.alloc (.cells #[.int .i64 1, .string x, .string y] 89)).cell? ⟨w.heap.size, 0, none⟩ = some (.int .i64 1) by go_simp); clear k1)
     go_ret
     exact ⟨ret_bool HV.out.symm, (kept_alloc _ _).trans K1.out⟩)
  · by_cases h2 : o = 2
    · subst h2
      have HV := Lib.hid (show holdsT s (2, x, y) = (!h || !q) by rw [holdsT_eq, if_neg (by decide), if_pos rfl, hv, hh, hq])
      clear hv hh hq h1
      cases h <;> cases q <;>
      (go_enter Tryz.func182, Tryz.ntmps182
       go_wp2_with (go_at_call 205; refine (HG.out _ (kept_alloc _ _)).mono ?_; rintro e w1 ⟨rfl, k1⟩; have K1 := Lib.hid k1; have c3 := cell_later k1 (show (w.alloc (.cells #[.int .i64 2, .string x, .string y] 89)).cell? ⟨w.heap.size, 2, none⟩ = some (.string y) by go_simp); have c0 := cell_later k1 (show (w.alloc (.cells #[.int .i64 2, .string x, .string y] 89)).cell? ⟨w.heap.size, 0, none⟩ = some (.int .i64 2) by go_simp); clear k1)
       go_ret
       exact ⟨ret_bool HV.out.symm, (kept_alloc _ _).trans K1.out⟩)
    · by_cases h3 : o = 3
      · subst h3
        have HV := Lib.hid (show holdsT s (3, x, y) = h by rw [holdsT_eq, if_neg (by decide), if_neg (by decide), if_pos rfl, hh])
        clear hv hh hq h1 h2
        go_enter Tryz.func182, Tryz.ntmps182
        go_wp2_with (go_at_call 205; refine (HG.out _ (kept_alloc _ _)).mono ?_; rintro e w1 ⟨rfl, k1⟩; have K1 := Lib.hid k1; have c0 := cell_later k1 (show (w.alloc (.cells #[.int .i64 3, .string x, .string y] 89)).cell? ⟨w.heap.size, 0, none⟩ = some (.int .i64 3) by go_simp); clear k1)
        go_ret
        exact ⟨ret_bool HV.out.symm, (kept_alloc _ _).trans K1.out⟩
      · by_cases h4 : o = 4
        · subst h4
          have HV := Lib.hid (show holdsT s (4, x, y) = !h by rw [holdsT_eq, if_neg (by decide), if_neg (by decide), if_neg (by decide), if_pos rfl, hh])
          clear hv hh hq h1 h2 h3
          go_enter Tryz.func182, Tryz.ntmps182
          go_wp2_with (go_at_call 205; refine (HG.out _ (kept_alloc _ _)).mono ?_; rintro e w1 ⟨rfl, k1⟩; have K1 := Lib.hid k1; have c0 := cell_later k1 (show (w.alloc (.cells #[.int .i64 4, .string x, .string y] 89)).cell? ⟨w.heap.size, 0, none⟩ = some (.int .i64 4) by go_simp); clear k1)
          go_ret
          exact ⟨ret_bool HV.out.symm, (kept_alloc _ _).trans K1.out⟩
        · have HV := Lib.hid (show holdsT s (o, x, y) = false by rw [holdsT_eq, if_neg h1, if_neg h2, if_neg h3, if_neg h4])
          have e1 : (o == 1) = false := by simpa using h1
          have e2 : (o == 2) = false := by simpa using h2
          have e3 : (o == 3) = false := by simpa using h3
          have e4 : (o == 4) = false := by simpa using h4
          clear hv hh hq h1 h2 h3 h4
          go_enter Tryz.func182, Tryz.ntmps182
          go_wp2_with (go_at_call 205; refine (HG.out _ (kept_alloc _ _)).mono ?_; rintro e w1 ⟨rfl, k1⟩; have K1 := Lib.hid k1; have c0 := cell_later k1 (show (w.alloc (.cells #[.int .i64 o, .string x, .string y] 89)).cell? ⟨w.heap.size, 0, none⟩ = some (.int .i64 o) by go_simp); clear k1)
          go_ret
          exact ⟨ret_bool HV.out.symm, (kept_alloc _ _).trans K1.out⟩

/-- All hold. -/
def matchT (l : TL) (s : PL) : Bool := l.all (holdsT s)
theorem match_cons (t : Int × ByteArray × ByteArray) (r : TL) (s : PL) : matchT (t :: r) s = (holdsT s t && matchT r s) := rfl

set_option maxHeartbeats 800000 in
theorem match_any (a a' : Option Addr) (len cap len' cap' : Nat) (l : TL) (s : PL) (w : World) (hr : RowAt TermLay w a len l) (hr' : RowAt PairLay w a' len' s) :
    Calls Tryz.prog 153 #[.slice a len cap, .slice a' len' cap'] w fun e w' => e = .returned (.bool (matchT l s)) ∧ Kept w w' := by
  have hl := hr.1
  have hm := hr.2.1
  unfold maxLen at hm
  rcases hr.form with h0 | ⟨b, off, rfl⟩
  · subst h0
    have HE := Lib.hid (show matchT l s = true by rw [List.eq_nil_of_length_eq_zero hl]; rfl)
    clear hr hl hr'
    go_enter Tryz.func153, Tryz.ntmps153
    go_wp2
    refine wp_loop_rounds 1 ?_
    rw [rounds_succ]
    go_wp2
    go_ret
    exact ⟨ret_bool HE.out.symm, Kept.refl _⟩
  · have HR := Lib.hid hr
    have HR' := Lib.hid hr'
    have HL := Lib.hid hl
    clear hr hl hr'
    go_enter Tryz.func153, Tryz.ntmps153
    go_wp2
    go_loopw [9] (fun i wr => ∃ k : Nat, k ≤ len ∧ i = .int .i64 k ∧ matchT (l.drop k) s = matchT l s ∧ Kept w wr) (fun i _ => len - (intOf i).toNat)
    case atStart => exact ⟨0, Nat.zero_le _, rfl, rfl, Kept.refl _⟩
    case round =>
      obtain ⟨k, hk, rfl, hrest, hK⟩ := hrel
      by_cases hlt : k < len
      · obtain ⟨o, x, y, hx, hd, hb, ho, hz, hz2, c1, c2, c3⟩ := (HR.out.kept hK).term hlt
        have HK := Lib.hid hK
        have HT := Lib.hid (hrest.symm.trans ((congrArg (fun z => matchT z s) hd).trans (match_cons _ _ _)))
        clear hK hrest hx hd
        by_cases n : holdsT s (o, x, y) = true
        · have N := Lib.hid n
          go_wp2_with (go_at_call 182; refine (holds_any o x y a' len' cap' s _ ((HR'.out.kept HK.out).kept (kept_alloc _ _))).mono ?_; rintro e w1 ⟨rfl, k1⟩; have K1 := Lib.hid k1; clear k1)
          go_roundw
          case rel => exact ⟨k + 1, by omega, by go_num, (HT.out.trans (by rw [N.out]; exact Bool.true_and _)).symm, HK.out.trans ((kept_alloc _ _).trans K1.out)⟩
          case measure => simp [intOf]; omega
        · have n : holdsT s (o, x, y) = false := by simpa using n
          have N := Lib.hid n
          go_wp2_with (go_at_call 182; refine (holds_any o x y a' len' cap' s _ ((HR'.out.kept HK.out).kept (kept_alloc _ _))).mono ?_; rintro e w1 ⟨rfl, k1⟩; have K1 := Lib.hid k1; clear k1)
          go_ret
          exact ⟨ret_bool (HT.out.trans (by rw [N.out]; exact Bool.false_and _)).symm, HK.out.trans ((kept_alloc _ _).trans K1.out)⟩
      · have HK := Lib.hid hK
        have HS := Lib.hid (hrest.symm.trans (congrArg (fun z => matchT z s) (drop_end (by rw [HL.out]; exact hlt))))
        clear hK hrest
        go_wp2
        go_ret
        exact ⟨ret_bool (HS.out.trans rfl).symm, HK.out⟩

end Go.Proofs.YtflllkpnkcmegaaGreatDoor

/- A pair, a term in words. -/
namespace Go.Proofs.YtflllkpnkcmegaaGreatDoor
open Go.RowKit
set_option linter.unusedVariables false

def pairB (x : ByteArray × ByteArray) : ByteArray := x.1 ++ ⟨#[58]⟩ ++ x.2
def termB (t : Int × ByteArray × ByteArray) : ByteArray :=
  if t.1 = 1 then t.2.1 ++ ⟨#[58]⟩ ++ t.2.2 else if t.1 = 2 then t.2.1 ++ ⟨#[33]⟩ ++ t.2.2 else if t.1 = 4 then ⟨#[45]⟩ ++ t.2.1 else t.2.1

theorem termText_any (o : Int) (x y : ByteArray) (w : World) (hx : x.size ≤ 1000000) (hy : y.size ≤ 1000000) :
    Calls Tryz.prog 138 #[TV o x y] w fun e w' => e = .returned (.string (termB (o, x, y))) ∧ Kept w w' := by
  by_cases h1 : o = 1
  · subst h1
    go_enter Tryz.func138, Tryz.ntmps138
    go_wp2
    go_ret
    exact ⟨rfl, kept_alloc _ _⟩
  · by_cases h2 : o = 2
    · subst h2
      go_enter Tryz.func138, Tryz.ntmps138
      go_wp2
      go_ret
      exact ⟨rfl, kept_alloc _ _⟩
    · by_cases h4 : o = 4
      · subst h4
        go_enter Tryz.func138, Tryz.ntmps138
        go_wp2
        go_ret
        exact ⟨rfl, kept_alloc _ _⟩
      · have HV := Lib.hid (show termB (o, x, y) = x by unfold termB; rw [if_neg h1, if_neg h2, if_neg h4])
        have e1 : (o == 1) = false := by simpa using h1
        have e2 : (o == 2) = false := by simpa using h2
        have e4 : (o == 4) = false := by simpa using h4
        clear h1 h2 h4
        go_enter Tryz.func138, Tryz.ntmps138
        go_wp2
        go_ret
        exact ⟨ret_str HV.out.symm, kept_alloc _ _⟩

end Go.Proofs.YtflllkpnkcmegaaGreatDoor

/- A row of texts joined: Text, SelText. -/
namespace Go.Proofs.YtflllkpnkcmegaaGreatDoor
open Go.RowKit
set_option linter.unusedVariables false

theorem termB_size {t : Int × ByteArray × ByteArray} (h1 : t.2.1.size ≤ 1000000) (h2 : t.2.2.size ≤ 1000000) : (termB t).size ≤ 2000001 := by
  unfold termB
  have e1 : (⟨#[58]⟩ : ByteArray).size = 1 := rfl
  have e2 : (⟨#[33]⟩ : ByteArray).size = 1 := rfl
  have e3 : (⟨#[45]⟩ : ByteArray).size = 1 := rfl
  split
  · rw [ByteArray.size_append, ByteArray.size_append]; omega
  · split
    · rw [ByteArray.size_append, ByteArray.size_append]; omega
    · split
      · rw [ByteArray.size_append]; omega
      · omega

def textS (l : PL) : ByteArray := if l = [] then ⟨#[45]⟩ else joinB (l.map pairB)

def textL (l : TL) : ByteArray := if l = [] then ⟨#[45]⟩ else joinB (l.map termB)

set_option maxHeartbeats 1600000 in
theorem joinT_any (a : Option Addr) (len cap : Nat) (l : TL) (w : World) (hr : RowAt TermLay w a len l) (hf : ∀ x ∈ l, x.2.1.size ≤ 1000000 ∧ x.2.2.size ≤ 1000000) (hn : len ≤ 1000000) :
    Calls Tryz.prog 137 #[.slice a len cap, .func (.func 138) #[] #[]] w fun e w' => e = .returned (.string (textL l)) ∧ Kept w w' := by
  have hl := hr.1
  rcases hr.form with h0 | ⟨b, off, rfl⟩
  · subst h0
    have HE := Lib.hid (show textL l = ⟨#[45]⟩ by unfold textL; rw [if_pos (List.eq_nil_of_length_eq_zero hl)])
    clear hr hl hf
    go_enter Tryz.func137, Tryz.ntmps137
    go_wp2
    go_ret
    exact ⟨ret_str HE.out.symm, Kept.refl _⟩
  · by_cases h0 : len = 0
    · subst h0
      have HE := Lib.hid (show textL l = ⟨#[45]⟩ by unfold textL; rw [if_pos (List.eq_nil_of_length_eq_zero hl)])
      clear hr hl hf
      go_enter Tryz.func137, Tryz.ntmps137
      go_wp2
      go_ret
      exact ⟨ret_str HE.out.symm, Kept.refl _⟩
    · have h0' : ((len : Int) == 0) = false := by
        have : (len : Int) ≠ 0 := by omega
        simpa using this
      have HE := Lib.hid (show textL l = joinB (l.map termB) by unfold textL; rw [if_neg (by intro e; rw [e] at hl; simp at hl; omega)])
      have HR := Lib.hid hr
      have HL := Lib.hid hl
      have HF := Lib.hid hf
      have HN := Lib.hid h0
      obtain ⟨i0, hi, hz0, hz1, hz2⟩ := info_parts strInfo
      have hib : i0.bytes * len ≤ 281474976710656 := by rw [hz2]; omega
      have hlm : len ≤ maxLen := by unfold maxLen; omega
      clear hr hl hf h0
      go_enter Tryz.func137, Tryz.ntmps137
      go_wp2_with (refine wpList_make_full _ rfl (.tmp 12) (.tmp 12) _ rfl w.heap.size 9 i0 _ 1 Tryz.underlying80 hi hz0 hz1 .i64 .i64 len len len rfl rfl rfl rfl hib hlm (Nat.le_refl _) ?_; intro w1 own1 grow1; rw [made_strings, ← fills_zero (l.map termB)] at own1; have O1 := Lib.hid own1; have K1 := Lib.hid (show Kept w w1 from (Below.refl _ w).grown grow1 (Nat.le_refl _) (fun k hk => by cases hk)); have hp1 := (own1.lt w.heap.size rfl).2; clear own1 grow1)
      go_loopw [16] (fun i wr => ∃ k : Nat, k ≤ len ∧ i = .int .i64 k ∧ wr.ownsRow w.heap.size 9 1 (.slice (some ⟨w.heap.size, 0, none⟩) len len) len (fills (l.map termB) len k) ∧ Kept w wr) (fun i _ => len - (intOf i).toNat)
      case atStart => exact ⟨0, Nat.zero_le _, rfl, O1.out, K1.out⟩
      case round =>
        obtain ⟨k, hk, rfl, hown, hK⟩ := hrel
        by_cases hlt : k < len
        · obtain ⟨o, x, y, hx, hd, hb, ho, hz, hz2, c1, c2, c3⟩ := (HR.out.kept hK).term hlt
          clear hz hz2
          have hz := show x.size ≤ 1000000 from (HF.out _ (List.mem_of_getElem? hx)).1
          have hz2 := show y.size ≤ 1000000 from (HF.out _ (List.mem_of_getElem? hx)).2
          have HX := Lib.hid (show (l.map termB)[k]? = some (termB (o, x, y)) by rw [List.getElem?_map, hx]; rfl)
          have HK := Lib.hid hK
          have HO := Lib.hid hown
          clear hK hx hd hown
          go_wp2_with (go_at_call 138; refine (termText_any o x y _ hz hz2).mono ?_; rintro e w2 ⟨rfl, k2⟩; have K2 := Lib.hid k2; have O2 := Lib.hid (ownsRow_kept HO.out ((kept_alloc wr _).trans k2)); clear k2; have z2 := O2.out.frozenAt k; have q2 := row_at O2.out (fills_at (by rw [List.length_map]; exact HL.out) hlt))
          go_roundw
          case rel =>
            refine ⟨k + 1, by omega, by go_num, ?_, ?_⟩
            · have := (O2.out.stored k (.string (termB (o, x, y)))).1
              rw [fills_set (by rw [List.length_map]; exact HL.out) HX.out] at this
              exact this
            · exact Below.setCell (HK.out.trans ((kept_alloc _ _).trans K2.out)) (p := ⟨w.heap.size, k, none⟩) (Nat.le_refl _) _
          case measure => simp [intOf]; omega
        · have HK := Lib.hid hK
          obtain rfl : k = len := by omega
          have hfull := hown
          rw [fills_all (by rw [List.length_map]; exact HL.out)] at hfull
          have HC := Lib.hid hfull
          have HK2 := Lib.hid ((hown.lt w.heap.size rfl).2)
          clear hK hown hfull
          have hml : (l.map termB).length = k := by rw [List.length_map]; exact HL.out
          have hjl := joins_le (l.map termB) 2000001 (by
            intro z hz
            obtain ⟨x, hx, rfl⟩ := List.mem_map.1 hz
            exact termB_size (HF.out x hx).1 (HF.out x hx).2)
          rw [hml] at hjl
          have hpl : w.heap.size < wr.heap.size := HK2.out
          have J := Tryz.strings_Join w.heap.size 0 k (l.map termB) ⟨#[44]⟩ wr (row_cells HC.out) hpl (by rw [hml]; omega) (by rw [hml]; exact Nat.le_refl _) (Nat.le_trans hjl (by omega))
          rw [hml] at J
          have HJ := Lib.hid J
          clear J hjl hml hpl
          go_wp2_with (go_at_call 130; refine HJ.out.mono ?_; rintro e w2 ⟨rfl, k2⟩; have K2 := Lib.hid (show Kept wr w2 from k2); clear k2)
          go_ret
          exact ⟨ret_str (HE.out.trans (by unfold joinB; rw [List.map_map])).symm, HK.out.trans K2.out⟩

/-- textL: in words. -/
theorem selText_any (a : Option Addr) (len cap : Nat) (l : TL) (w : World) (hr : RowAt TermLay w a len l) (hf : ∀ x ∈ l, x.2.1.size ≤ 1000000 ∧ x.2.2.size ≤ 1000000) (hn : len ≤ 1000000) :
    Calls Tryz.prog 82 #[.slice a len cap] w fun e w' => e = .returned (.string (textL l)) ∧ Kept w w' := by
  have HJ := Lib.hid (joinT_any a len cap l w hr hf hn)
  clear hr hf hn
  go_enter Tryz.func82, Tryz.ntmps82
  go_wp2_with (go_at_call 137; refine HJ.out.mono ?_; rintro e w2 ⟨rfl, k2⟩)
  go_ret
  exact ⟨rfl, k2⟩

end Go.Proofs.YtflllkpnkcmegaaGreatDoor

/- A part's form: a pair, a term. -/
namespace Go.Proofs.YtflllkpnkcmegaaGreatDoor
open Go.RowKit
set_option linter.unusedVariables false

theorem cutPrefix_any (p q : List UInt8) (w : World) :
    Calls Tryz.prog 196 #[.string (bytes p), .string (bytes q)] w fun e w' => e = .returned (.tuple #[.string (bytes (Lib.trimPrefix p q)), .bool (Lib.hasPrefix p q)]) ∧ w' = w := Tryz.strings_CutPrefix (bytes p) (bytes q) w
/-- A set's part. -/
def pairL (p : List UInt8) : ByteArray × ByteArray := (bytes (Lib.cut p [58]).1, bytes (Lib.cut p [58]).2.1)
def pairBad (p : List UInt8) : Bool := !(Lib.cut p [58]).2.2 || decide (0 ≤ Lib.indexByte (Lib.cut p [58]).2.1 58)

/-- How many signs. -/
def signsL (p : List UInt8) : Nat := Lib.countByte p 58 + Lib.countByte p 33
/-- A selector's part. -/
def termL (p : List UInt8) : Int × ByteArray × ByteArray :=
  if Lib.hasPrefix p [45] = true then (4, bytes (Lib.trimPrefix p [45]), ByteArray.empty)
  else if signsL p = 0 then (3, bytes p, ByteArray.empty)
  else if (Lib.cut p [58]).2.2 = true then (1, bytes (Lib.cut p [58]).1, bytes (Lib.cut p [58]).2.1)
  else (2, bytes (Lib.cut p [33]).1, bytes (Lib.cut p [33]).2.1)
def termBad (p : List UInt8) : Bool := decide (p = []) || decide (1 < signsL p) || (decide (signsL p = 1) && Lib.hasPrefix p [45])

set_option maxHeartbeats 1600000 in
theorem term_ok (p : List UInt8) (w : World) (hE : Env w) (hp : p.length ≤ 1000000) (h : termBad p = false) :
    Calls Tryz.prog 172 #[.string (bytes p)] w fun e w' => e = .returned (TV (termL p).1 (termL p).2.1 (termL p).2.2) ∧ Kept w w' := by
  have HE := Lib.hid hE
  unfold termBad at h
  rw [Bool.or_eq_false_iff, Bool.or_eq_false_iff] at h
  obtain ⟨⟨h0, h1⟩, h2⟩ := h
  have e0 : ((bytes p).toList == ([] : List UInt8)) = false := by rw [bytes_toList]; simpa using h0
  have h1 : ¬ 1 < signsL p := by simpa using h1
  have hA := count_le p 58
  have hB := count_le p 33
  have HP := Lib.hid (fun W => cutPrefix_any p [45] W)
  clear hE h0
  obtain ⟨A, eA⟩ : ∃ A, Lib.countByte p 58 = A := ⟨_, rfl⟩
  obtain ⟨B, eB⟩ : ∃ B, Lib.countByte p 33 = B := ⟨_, rfl⟩
  have eS : signsL p = A + B := by unfold signsL; rw [eA, eB]
  rw [eA] at hA
  rw [eB] at hB
  rw [eS] at h1 h2
  by_cases hf : Lib.hasPrefix p [45] = true
  · have hs : A + B = 0 := by
      rw [hf, Bool.and_true] at h2
      have : ¬ A + B = 1 := by simpa using h2
      omega
    have HV := Lib.hid (show termL p = (4, bytes (Lib.trimPrefix p [45]), ByteArray.empty) by unfold termL; rw [if_pos hf])
    obtain ⟨rfl, rfl⟩ : A = 0 ∧ B = 0 := by omega
    rw [hf] at HP
    clear h1 h2 eS hA hB hf hs
    rw [HV.out]
    go_enter Tryz.func172, Tryz.ntmps172
    go_wp2_with (first | (go_at_call 195; refine (count_any _ p _).mono ?_; rintro e w' ⟨rfl, rfl⟩) | (go_at_call 196; refine (HP.out _).mono ?_; rintro e w' ⟨rfl, rfl⟩))
    (try simp only [Exit.inBlock, Exit.then])
    refine bodyPost_ret (v := TV 4 (bytes (Lib.trimPrefix p [45])) ⟨#[]⟩) (by simp [results, Tryz.results172, go_sem]) rfl ?_
    exact ⟨rfl, kept_alloc _ _⟩
  · have hf : Lib.hasPrefix p [45] = false := by simpa using hf
    have HG := Lib.hid hf
    rw [hf] at HP
    clear h2 hf
    by_cases hs : A + B = 0
    · have HV := Lib.hid (show termL p = (3, bytes p, ByteArray.empty) by unfold termL; rw [if_neg (by rw [HG.out]; decide), if_pos (eS.trans hs)])
      obtain ⟨rfl, rfl⟩ : A = 0 ∧ B = 0 := by omega
      clear h1 eS hA hB hs
      rw [HV.out]
      go_enter Tryz.func172, Tryz.ntmps172
      go_wp2_with (first | (go_at_call 195; refine (count_any _ p _).mono ?_; rintro e w' ⟨rfl, rfl⟩) | (go_at_call 196; refine (HP.out _).mono ?_; rintro e w' ⟨rfl, rfl⟩))
      (try simp only [Exit.inBlock, Exit.then])
      refine bodyPost_ret (v := TV 3 (bytes p) ⟨#[]⟩) (by simp [results, Tryz.results172, go_sem]) rfl ?_
      exact ⟨rfl, kept_alloc _ _⟩
    · have hs1 : A + B = 1 := by omega
      have hN : ¬ signsL p = 0 := by omega
      have hw : IntKind.i64.wrap ((A : Int) + (B : Int)) = 1 := by rw [show (A : Int) + (B : Int) = 1 by omega]; rfl
      have hab : (A : Int) + (B : Int) = 1 := by omega
      by_cases hc : (Lib.cut p [58]).2.2 = true
      · have HV := Lib.hid (show termL p = (1, bytes (Lib.cut p [58]).1, bytes (Lib.cut p [58]).2.1) by unfold termL; rw [if_neg (by rw [HG.out]; decide), if_neg hN, if_pos hc])
        clear h1 eS hA hB hs hs1 hN
        rw [HV.out]
        go_enter Tryz.func172, Tryz.ntmps172
        go_wp2_with (first | (go_at_call 195; refine (count_any _ p _).mono ?_; rintro e w' ⟨rfl, rfl⟩) | (go_at_call 196; refine (HP.out _).mono ?_; rintro e w' ⟨rfl, rfl⟩) | (go_at_call 161; refine (cut_any _ p _ (HE.out.kept (kept_alloc _ _)) hp).mono ?_; rintro e w' ⟨rfl, n, rfl⟩))
        (try simp only [Exit.inBlock, Exit.then])
        refine bodyPost_ret (v := TV 1 (bytes (Lib.cut p [58]).1) (bytes (Lib.cut p [58]).2.1)) (by simp [results, Tryz.results172, go_sem]) rfl ?_
        exact ⟨rfl, kept_cell (kept_cell (kept_cell ((kept_alloc _ _).trans (Kept.drewN _ _)) (Nat.le_refl _) _) (Nat.le_refl _) _) (Nat.le_refl _) _⟩
      · have hc : (Lib.cut p [58]).2.2 = false := by simpa using hc
        have HV := Lib.hid (show termL p = (2, bytes (Lib.cut p [33]).1, bytes (Lib.cut p [33]).2.1) by unfold termL; rw [if_neg (by rw [HG.out]; decide), if_neg hN, if_neg (by rw [hc]; decide)])
        clear h1 eS hA hB hs hs1 hN
        rw [HV.out]
        go_enter Tryz.func172, Tryz.ntmps172
        go_wp2_with (first | (go_at_call 195; refine (count_any _ p _).mono ?_; rintro e w' ⟨rfl, rfl⟩) | (go_at_call 196; refine (HP.out _).mono ?_; rintro e w' ⟨rfl, rfl⟩) | (go_at_call 161; refine (cut_any _ p _ (by first | exact HE.out.kept (kept_alloc _ _) | exact HE.out.kept ((kept_alloc _ _).trans (Kept.drewN _ _))) hp).mono ?_; rintro e w' ⟨rfl, n, rfl⟩))
        (try simp only [Exit.inBlock, Exit.then])
        refine bodyPost_ret (v := TV 2 (bytes (Lib.cut p [33]).1) (bytes (Lib.cut p [33]).2.1)) (by simp [results, Tryz.results172, go_sem]) rfl ?_
        exact ⟨rfl, kept_cell (kept_cell (kept_cell (by first | exact (kept_alloc _ _).trans (Kept.drewN _ _) | exact ((kept_alloc _ _).trans (Kept.drewN _ _)).trans (Kept.drewN _ _)) (Nat.le_refl _) _) (Nat.le_refl _) _) (Nat.le_refl _) _⟩

set_option maxHeartbeats 1600000 in
theorem term_bad (p : List UInt8) (w : World) (hE : Env w) (hp : p.length ≤ 1000000) (h : termBad p = true) :
    Calls Tryz.prog 172 #[.string (bytes p)] w fun e w' => e = .panicked [perr 2] ∧ Kept w w' := by
  unfold termBad at h
  have hA := count_le p 58
  have hB := count_le p 33
  have HP := Lib.hid (fun W => cutPrefix_any p [45] W)
  obtain ⟨A, eA⟩ : ∃ A, Lib.countByte p 58 = A := ⟨_, rfl⟩
  obtain ⟨B, eB⟩ : ∃ B, Lib.countByte p 33 = B := ⟨_, rfl⟩
  have eS : signsL p = A + B := by unfold signsL; rw [eA, eB]
  rw [eA] at hA
  rw [eB] at hB
  rw [eS] at h
  clear hE eS
  by_cases h0 : p = []
  · have e0 : ((bytes p).toList == ([] : List UInt8)) = true := by rw [bytes_toList, h0]; rfl
    clear h h0
    go_enter Tryz.func172, Tryz.ntmps172
    go_wp2_with (first | (go_at_call 195; refine (count_any _ p _).mono ?_; rintro e w' ⟨rfl, rfl⟩) | (go_at_call 196; refine (HP.out _).mono ?_; rintro e w' ⟨rfl, rfl⟩))
    exact ⟨rfl, rfl, kept_alloc _ _⟩
  · have e0 : ((bytes p).toList == ([] : List UInt8)) = false := by rw [bytes_toList]; simpa using h0
    by_cases h1 : 1 < A + B
    · have h1' : (1 : Int) < (A : Int) + (B : Int) := by omega
      clear h h0 h1
      go_enter Tryz.func172, Tryz.ntmps172
      go_wp2_with (first | (go_at_call 195; refine (count_any _ p _).mono ?_; rintro e w' ⟨rfl, rfl⟩) | (go_at_call 196; refine (HP.out _).mono ?_; rintro e w' ⟨rfl, rfl⟩))
      exact ⟨rfl, rfl, kept_alloc _ _⟩
    · have h2 : A + B = 1 ∧ Lib.hasPrefix p [45] = true := by
        have e1 : decide (p = []) = false := by simpa using h0
        have e2 : decide (1 < A + B) = false := by simpa using h1
        rw [e1, e2, Bool.false_or, Bool.false_or, Bool.and_eq_true] at h
        exact ⟨by simpa using h.1, h.2⟩
      obtain ⟨hs, hf⟩ := h2
      have hw : IntKind.i64.wrap ((A : Int) + (B : Int)) = 1 := by rw [show (A : Int) + (B : Int) = 1 by omega]; rfl
      have hab : (A : Int) + (B : Int) = 1 := by omega
      rw [hf] at HP
      clear h h0 h1 hs hf hA hB
      go_enter Tryz.func172, Tryz.ntmps172
      go_wp2_with (first | (go_at_call 195; refine (count_any _ p _).mono ?_; rintro e w' ⟨rfl, rfl⟩) | (go_at_call 196; refine (HP.out _).mono ?_; rintro e w' ⟨rfl, rfl⟩))
      exact ⟨rfl, rfl, kept_alloc _ _⟩

end Go.Proofs.YtflllkpnkcmegaaGreatDoor

/- parsed, at 25: every part's form, then the check. -/
namespace Go.Proofs.YtflllkpnkcmegaaGreatDoor
open Go.RowKit Go.Shelf
set_option linter.unusedVariables false
attribute [local go_sem] Oper.semAt_some

def parsedP (s : List UInt8) := parsedG pairBad pairL chkS s

end Go.Proofs.YtflllkpnkcmegaaGreatDoor

/- parsed, at 27: every part's form, then the check. -/
namespace Go.Proofs.YtflllkpnkcmegaaGreatDoor
open Go.RowKit Go.Shelf
set_option linter.unusedVariables false
attribute [local go_sem] Oper.semAt_some

theorem infoT : (Tryz.prog.info? 89).map (fun i => (i.zero, i.size, i.bytes)) = some (some (.agg #[.int .i64 0, .string ByteArray.empty, .string ByteArray.empty]), 3, 40) := by kernel_rfl

theorem termL_fine {p : List UInt8} (h : p.length ≤ 1000000) : TermLay.fine (termL p) := by
  have h1 := (cut_le p [58]).1
  have h2 := (cut_le p [58]).2
  have h3 := (cut_le p [33]).1
  have h4 := (cut_le p [33]).2
  have h5 : (Lib.trimPrefix p [45]).length ≤ p.length := by unfold Lib.trimPrefix; split <;> simp
  have he : ByteArray.empty.size ≤ maxLen := Nat.zero_le _
  have mk : ∀ q : List UInt8, q.length ≤ p.length → (bytes q).size ≤ maxLen := fun q hq => by rw [bytes_size]; unfold maxLen; omega
  unfold termL
  split
  · exact ⟨⟨by dsimp only; omega, by dsimp only; omega⟩, mk _ h5, he⟩
  · split
    · exact ⟨⟨by dsimp only; omega, by dsimp only; omega⟩, mk _ (Nat.le_refl _), he⟩
    · split
      · exact ⟨⟨by dsimp only; omega, by dsimp only; omega⟩, mk _ h1, mk _ h2⟩
      · exact ⟨⟨by dsimp only; omega, by dsimp only; omega⟩, mk _ h3, mk _ h4⟩

def parsedT (s : List UInt8) := parsedG termBad termL chkL s

theorem parsedT_dash (w : World) :
    Calls Tryz.prog 171 #[.string (bytes [45]), .func (.func 172) #[] #[], .func (.func 59) #[] #[]] w (RowRes TermLay 89 (parsedT [45]) w.heap.size w) := by
  have e : ((bytes [45]).toList == [45]) = true := by rw [bytes_toList]; rfl
  go_enter Tryz.func171, Tryz.ntmps171
  go_wp2
  go_ret
  exact RowRes.good rfl (Own.nil _ _ _) (kept_alloc _ _)

set_option maxRecDepth 100000 in
set_option maxHeartbeats 1600000 in
theorem parsedT_any (s : List UInt8) (w : World) (hE : Env w) (hs : s.length ≤ 1000000) (hd : s ≠ [45]) :
    Calls Tryz.prog 171 #[.string (bytes s), .func (.func 172) #[] #[], .func (.func 59) #[] #[]] w (RowRes TermLay 89 (parsedT s) w.heap.size w) := by
  have hdash : ((bytes s).toList == [45]) = false := by rw [bytes_toList]; simpa using hd
  have HD0 := Lib.hid hd
  clear hd
  refine calls_of_wpAt (n := 6) Tryz.func171 rfl ?_
  simp only [Tryz.ntmps171, List.size_toArray, List.length_cons, List.length_nil, Nat.reduceAdd, Nat.reduceSub, Array.replicate_succ, Array.replicate_zero, List.push_toArray, List.append_toArray, List.nil_append, List.cons_append]
  refine wpAt_seq (wpAt_of (n := 6) ?_)
  gi_wp2
  refine wpAt_seq (wpAt_of (n := 6) ?_)
  gi_wp2
  refine wpAt_seq (wpAt_of (n := 6) ?_)
  gi_wp2
  obtain ⟨V0, hV0⟩ : ∃ V0, (w.alloc (.cells #[.func (.func 172) #[] #[]] 225)).alloc (.cells #[.slice none 0 0] 27) = V0 := ⟨_, rfl⟩
  have HV0S := Lib.hid (show V0.heap.size = w.heap.size + 2 by rw [← hV0]; simp)
  have HV0K := Lib.hid (show Kept w V0 by rw [← hV0]; exact kept_two _ _ _)
  have HV0C := Lib.hid (show V0.cell? ⟨w.heap.size + 1, 0, none⟩ = some (.slice none 0 0) ∧ V0.frozen? ⟨w.heap.size + 1, 0, none⟩ = false ∧ V0.cell? ⟨w.heap.size, 0, none⟩ = some (.func (.func 172) #[] #[]) by
    rw [← hV0]; exact two_cells w _ _ _ _)
  rw [hV0]
  clear hV0
  have HE := Lib.hid hE
  have HPL := Lib.hid (fun p (h : p ∈ partsOf s) => Nat.le_trans (part_len s p h) hs)
  have hcl : (bytes s).size ≤ 281474976710656 := by rw [bytes_size]; omega
  clear hE
  refine wpAt_seq (wpAt_seq (wpAt_of (n := 6) ?_))
  gi_wp2_with (first | (refine ⟨trivial, ?_⟩; gi_at_call 119; refine (callsIn_wide.2 (clone_any _ _ hcl)).mono ?_; rintro e w1 ⟨rfl, k1⟩; have K1 := Lib.hid k1; clear k1) | (refine ⟨trivial, ?_⟩; gi_at_call 188; refine (callsIn_wide.2 (splitseq_any s _)).mono ?_; rintro e w2 ⟨rfl, rfl⟩))
  refine wpAt_block ?_
  obtain ⟨m, hm⟩ : ∃ m, w1.heap.size = m := ⟨_, rfl⟩
  have bc := boxes_cells w1 s
  have bsz := boxes_size w1 s
  rw [hm] at bc bsz ⊢
  have HM := Lib.hid hm
  have hwm : w.heap.size + 2 ≤ m := by rw [← hm, ← HV0S.out]; exact K1.out.size
  have HWM := Lib.hid hwm
  have HB0 := Lib.hid (show Below w.heap.size w (boxes w1 s) from HV0K.out.trans (K1.out.trans (boxes_kept w1 s)))
  have HK0 := Lib.hid (show Kept V0 (boxes w1 s) from K1.out.trans (boxes_kept w1 s))
  have HC0 := Lib.hid (show (boxes w1 s).cell? ⟨w.heap.size + 1, 0, none⟩ = some (.slice none 0 0) ∧ (boxes w1 s).frozen? ⟨w.heap.size + 1, 0, none⟩ = false ∧ (boxes w1 s).cell? ⟨w.heap.size, 0, none⟩ = some (.func (.func 172) #[] #[]) from
    ⟨cell_later HK0.out HV0C.out.1, (HK0.out.frozen (p := ⟨w.heap.size + 1, 0, none⟩) (by rw [HV0S.out]; exact Nat.lt_succ_self _)).trans HV0C.out.2.1, cell_later HK0.out HV0C.out.2.2⟩)
  clear hm
  refine wpAt_split (n := 6) Tryz.func171 (by decide) (m + 1) m (m + 2) rfl s hs (by omega) (by omega) (by omega) (by omega) (by omega) bc.1 bc.2.1 bc.2.2.1 bc.2.2.2
    (fun k W' => Below w.heap.size w W' ∧ (∀ p ∈ (partsOf s).take k, termBad p = false) ∧ W'.cell? ⟨w.heap.size, 0, none⟩ = some (.func (.func 172) #[] #[]) ∧ VBox TermLay 89 (m + 5) (w.heap.size + 1) (accG termL (partsOf s) k) W')
    (fun c W' => c = [perr 2] ∧ Below w.heap.size w W' ∧ (partsOf s).any termBad = true)
    (fun k W1 W2 h st => ⟨Below.st h.1 st (by omega) (by omega), h.2.1, st_cell h.2.2.1 st (by omega) (by omega), h.2.2.2.st st (by omega) (by omega) (by omega)⟩) (fun k W' h => HE.out.kept h.1) ⟨HB0.out, by simp, HC0.out.2.2, ⟨_, HC0.out.1, HC0.out.2.1, Own.nil _ _ _⟩⟩
    (fun x => { tmps := #[.string (bytes s), .func (.func 172) #[] #[], .func (.func 59) #[] #[], undef, .pointer (some ⟨w.heap.size, 0, none⟩), undef, .slice none 0 0, .pointer (some ⟨w.heap.size + 1, 0, none⟩), .string x, undef, .string (bytes s), .bool false, .string (bytes s), .string (bytes s),
        .func (.func 232) #[] #[.pointer (some ⟨m + 1, 0, none⟩), .pointer (some ⟨m, 0, none⟩), .pointer (some ⟨m + 2, 0, none⟩)], .string x,
        undef, undef, undef, undef, undef, undef, undef, undef, undef, undef, undef, undef, undef, undef, undef], defers := [] }) ?assign ?body ?done ?panic
  case assign =>
    intro l x W' K hK
    gi_wp2
    exact hK
  case panic =>
    rintro c W' ⟨rfl, hB', hbad⟩ hk'
    have HV := Lib.hid (show parsedT s = (2, []) by unfold parsedT parsedG; rw [if_neg HD0.out, if_pos hbad])
    refine ⟨by simp, .inl ⟨_, _, rfl, run_takeDeferred hk', ?_⟩⟩
    exact RowRes.bad (by rw [HV.out]) (by decide) (below_put hB' (by omega))
  case body =>
    rintro l k p W' hp ⟨hB', hd', hfc, v, hvc', hvf', hvo⟩ hlt'
    have hmem : p ∈ partsOf s := List.mem_of_getElem? hp
    have HMEM := Lib.hid hmem
    have hpl := HPL.out p hmem
    have HE' := Lib.hid (HE.out.kept hB')
    have HB' := Lib.hid hB'
    have HD' := Lib.hid hd'
    have HP := Lib.hid hp
    have hvb : w.heap.size + 1 < W'.heap.size := by rw [bsz] at hlt'; omega
    have HLT := Lib.hid (show m + 5 ≤ W'.heap.size by rw [bsz] at hlt'; omega)
    have HHD : Hid ((boxes w1 s).heap.size = m + 3) := Lib.hid bsz
    by_cases hgood : termBad p = false
    · have HGOOD := Lib.hid hgood
      obtain ⟨o, x, y, hxy⟩ : ∃ o x y, termL p = (o, x, y) := ⟨_, _, _, rfl⟩
      have HXY := Lib.hid hxy
      have HCALL := Lib.hid (term_ok p W' HE'.out hpl hgood)
      rw [hxy] at HCALL
      obtain ⟨av, cv, rfl, q1, q2, q3⟩ := hvo.at_
      obtain ⟨n, hn⟩ : ∃ n, (accG termL (partsOf s) k).length = n := ⟨_, rfl⟩
      rw [hn] at hvo hvc'
      have HVO := Lib.hid hvo
      have HFC0 := Lib.hid hfc
      have HN := Lib.hid hn
      have hn9 : n ≤ 9 := by
        have := accG_len (f := termL) (show k ≤ (partsOf s).length from Nat.le_of_lt (List.getElem?_eq_some_iff.1 hp).1)
        omega
      clear bc bsz hB' hd' hp hmem hlt' q3 hvo hn q1 q2 hgood hxy
      gi_wp2_with (refine ⟨trivial, ?_⟩; gi_at_call 172; refine (CallsIn.inRound l (callsIn_wide.2 HCALL.out)).mono ?_; rintro e W1 ⟨rfl, k1⟩; have K1' := Lib.hid k1; have hvc1 := cell_later k1 hvc'; have hvf1 := (k1.frozen (p := ⟨w.heap.size + 1, 0, none⟩) hvb).trans hvf'; have hm1 : w.heap.size + 1 < W1.heap.size := Nat.lt_of_lt_of_le hvb k1.size; clear k1 hvc' hvf' hfc; refine Hid.out ?_)
      refine Lib.hid ?_
      by_cases h8 : n ≤ 8
      · obtain ⟨i0, hi, hz0, hz1, hz2⟩ := info_parts infoT
        gi_wp2_with (gi_at_builtin; go_must (refine wpListIn_append_own _ rfl (.tmp 22) (.tmp 24) _ rfl (m + 5) 89 i0 _ 3 40 Tryz.underlying27 hi hz0 hz1 hz2 rfl (by decide) _ n (rowCells TermLay (accG termL (partsOf s) k)) rfl (((HVO.out.kept K1'.out).kept (kept_two W1 (.cells #[.int .i64 o, .string x, .string y] 89) (.cells #[.int .i64 o, .string x, .string y] 89))).row HN.out) ⟨W1.heap.size + 1, 0, none⟩ 1 1 [.int .i64 o, .string x, .string y] rfl rfl (news3 _ _ (.int .i64 o) (.string x) (.string y) _) (one_iss o x y) (by unfold maxLen; omega) (by omega) (by rw [World.size_alloc, World.size_alloc]; have := HLT.out; have := K1'.out.size; omega) ?_); intro v' w2 hown' hgrow _; refine Hid.out ?_)
        refine Lib.hid ?_
        obtain ⟨g', cap', rfl⟩ := ownsRow_succ hown'
        have KA := Lib.hid (show Kept W' ((W1.alloc (.cells #[.int .i64 o, .string x, .string y] 89)).alloc (.cells #[.int .i64 o, .string x, .string y] 89)) from K1'.out.trans (kept_two W1 _ _))
        have hrow : ∀ r, (Value.slice av n cv).ownBlock = some r → m + 5 ≤ r := fun r hr => (HVO.out.1.lt r hr).1
        have hbl : ∀ b, b < m + 5 → w2.heap[b]? = W'.heap[b]? := fun b hb => (hgrow.block b (Nat.lt_of_lt_of_le hb (Nat.le_trans HLT.out KA.out.size)) (fun e => by have := hrow b e.symm; omega)).trans (KA.out.block b (Nat.lt_of_lt_of_le hb HLT.out))
        have HBL := Lib.hid hbl
        have hvc2 : w2.cell? ⟨w.heap.size + 1, 0, none⟩ = some (.slice av n cv) := (World.cell?_of_block (a := ⟨w.heap.size + 1, 0, none⟩) (hgrow.block (w.heap.size + 1) (by simp; omega) (fun e => by have := hrow _ e.symm; omega))).trans (cell_later (kept_two W1 _ _) hvc1)
        have hvf2 : w2.frozen? ⟨w.heap.size + 1, 0, none⟩ = false := (World.frozen?_of_block (a := ⟨w.heap.size + 1, 0, none⟩) (hgrow.block (w.heap.size + 1) (by simp; omega) (fun e => by have := hrow _ e.symm; omega))).trans (((kept_two W1 _ _).frozen (p := ⟨w.heap.size + 1, 0, none⟩) hm1).trans hvf1)
        have HOWN := Lib.hid hown'
        have HGS := Lib.hid (show Below w.heap.size w w2 from ⟨hgrow.os.trans (KA.out.os.trans HB'.out.os), hgrow.tape.trans (KA.out.tape.trans HB'.out.tape), hgrow.output.trans (KA.out.output.trans HB'.out.output), Nat.le_trans HB'.out.size (Nat.le_trans KA.out.size hgrow.size), fun b hb => (HBL.out b (by omega)).trans (HB'.out.block b hb)⟩)
        have HFC := Lib.hid (show w2.cell? ⟨w.heap.size, 0, none⟩ = some (.func (.func 172) #[] #[]) from (World.cell?_of_block (a := ⟨w.heap.size, 0, none⟩) (HBL.out w.heap.size (by omega))).trans HFC0.out)
        clear hvc1 hvf1 hown' hgrow hrow hbl hi hz0 hz1 hz2
        gi_wp2
        refine ⟨fun b hb => ?_, HGS.out.setCell (p := ⟨w.heap.size + 1, 0, none⟩) (by show w.heap.size ≤ w.heap.size + 1; omega) _, next_good HD'.out HP.out HGOOD.out, ?_, ⟨_, World.cell?_setCell_same' _ _ _ (by rw [hvc2]; rfl), by rw [World.frozen?_setCell]; exact hvf2, ?_⟩⟩
        · have hbm : b < m + 5 ∧ b ≠ w.heap.size + 1 := by have := HHD.out; rcases hb with h | h | h | h | h <;> omega
          exact (Below.heap_setCell w2 ⟨w.heap.size + 1, 0, none⟩ _ b hbm.2).trans (HBL.out b hbm.1)
        · rw [World.cell?_setCell_other _ _ _ _ (by intro e; injection e with e; omega)]; exact HFC.out
        · have hl : (accG termL (partsOf s) (k + 1)).length = n + 1 := by rw [accG_next HP.out (by rw [HN.out]; exact h8), List.length_append, HN.out]; rfl
          have ho : Own TermLay 89 w2 (m + 5) (.slice (some ⟨g', 0, none⟩) (n + 1) cap') (accG termL (partsOf s) (k + 1)) := by
            refine ⟨?_, ?_⟩
            · rw [hl, accG_next HP.out (by rw [HN.out]; exact h8), rowCells_append, HXY.out]; exact HOWN.out
            · rw [accG_next HP.out (by rw [HN.out]; exact h8)]
              intro z hz
              rcases List.mem_append.1 hz with g | g
              · exact HVO.out.2 z g
              · have : z = termL p := by simpa using g
                rw [this]; exact termL_fine hpl
          exact ho.setCell_below (a := ⟨w.heap.size + 1, 0, none⟩) (by show w.heap.size + 1 < m + 5; omega) _
      · have HFULL := Lib.hid (accG_full (f := termL) HP.out (by rw [HN.out]; exact h8))
        have h9 : 8 < n := by omega
        have HQ1 := Lib.hid (cell_later (kept_alloc W1 (.cells #[.int .i64 o, .string x, .string y] 89)) hvc1)
        have HQ2 := Lib.hid (((kept_alloc W1 (.cells #[.int .i64 o, .string x, .string y] 89)).frozen (p := ⟨w.heap.size + 1, 0, none⟩) hm1).trans hvf1)
        have HFC := Lib.hid (show (W1.alloc (.cells #[.int .i64 o, .string x, .string y] 89)).cell? ⟨w.heap.size, 0, none⟩ = some (.func (.func 172) #[] #[]) from cell_later (K1'.out.trans (kept_alloc W1 _)) HFC0.out)
        clear h8
        gi_wp2
        refine ⟨fun b hb => ?_, HB'.out.trans (Below.mono (Kept.trans K1'.out (kept_alloc W1 _)) HB'.out.size), next_good HD'.out HP.out HGOOD.out, HFC.out, ⟨.slice av n cv, HQ1.out, HQ2.out, ?_⟩⟩
        · have hbm : b < m + 5 := by have := HHD.out; rcases hb with h | h | h | h | h <;> omega
          exact (Kept.trans K1'.out (kept_alloc W1 _)).block b (Nat.lt_of_lt_of_le hbm HLT.out)
        · rw [HFULL.out]; exact HVO.out.kept (Kept.trans K1'.out (kept_alloc W1 _))
    · have HBAD := Lib.hid (show termBad p = true by simpa using hgood)
      clear bc bsz hB' hd' hp hmem hlt' hvo hvc' hvf' hgood
      gi_wp2_with (refine ⟨trivial, ?_⟩; gi_at_call 172; refine (CallsIn.inRound l (callsIn_wide.2 (term_bad p _ HE'.out hpl HBAD.out))).mono ?_; rintro e W1 ⟨rfl, k1⟩; have K1' := Lib.hid k1; clear k1)
      refine ⟨rfl, fun b hb => ?_, rfl, HB'.out.trans (Below.mono K1'.out HB'.out.size), ?_⟩
      · have hbm : b < m + 5 := by have := HHD.out; rcases hb with h | h | h | h | h <;> omega
        exact K1'.out.block b (Nat.lt_of_lt_of_le hbm HLT.out)
      · rw [List.any_eq_true]
        exact ⟨p, HMEM.out, HBAD.out⟩
  case done =>
    rintro W' ⟨hB', hd', hfc, v, hvc', hvf', hvo⟩ hk'
    have hany : (partsOf s).any termBad = false := by
      rw [List.any_eq_false]
      intro p hp
      rw [hd' p (by simpa using hp)]; decide
    have hacc : accG termL (partsOf s) (partsOf s).length = ((partsOf s).map termL).take 9 := by unfold accG; rw [List.take_length]
    rw [hacc] at hvo
    obtain ⟨R, hR⟩ : ∃ R, ((partsOf s).map termL).take 9 = R := ⟨_, rfl⟩
    have HV := Lib.hid (show parsedT s = if chkL R ≠ 0 then (chkL R, []) else (0, R) by unfold parsedT parsedG; rw [if_neg HD0.out, if_neg (by rw [hany]; decide), hR])
    rw [hR] at hvo
    obtain ⟨av, cv, rfl, q1, q2, q3⟩ := hvo.at_
    have HVO := Lib.hid hvo
    have HCHK := Lib.hid (fun W (k : Kept W' W) => checkSel_any av R.length cv R W (q3.kept k))
    have HDD := Lib.hid hk'
    have HB' := Lib.hid hB'
    have HLT := Lib.hid (show m + 3 < W'.heap.size by have := (Array.getElem?_eq_some_iff.1 hk').1; rw [bsz] at this; exact this)
    have HBS := Lib.hid bsz
    have hvb : w.heap.size + 1 < W'.heap.size := by have := HLT.out; omega
    clear bc bsz hB' hd' hk' hvo q3 q1 q2 hR hacc hany hfc
    refine wpAt_of (n := 6) (wpIn_wide.2 ?_)
    have KD := Lib.hid (Kept.drew W')
    have f1 := cell_later KD.out hvc'
    by_cases hc : chkL R = 0
    · have HC := Lib.hid hc
      have HCW := Lib.hid (HCHK.out _ KD.out)
      rw [hc] at HCW
      clear hc
      go_wp2
      go_region_held3 (fun W => W.cell? ⟨w.heap.size + 1, 0, none⟩ = some (.slice av R.length cv) ∧ Kept W' W)
        (first | exact ⟨f1, KD.out⟩ | exact ⟨cell_later K1.out f1, KD.out.trans K1.out⟩)
        (first | (go_at_call 59; refine HCW.out.mono ?_; rintro e1 W1 ⟨rfl, k1⟩; have K1 := Lib.hid k1; clear k1) | (go_at_call 125; refine (soundT_ok _ _).mono ?_; rintro e2 w2 ⟨rfl, rfl⟩))
      go_wp2
      have K1' := Lib.hid (KD.out.trans K1.out)
      have e1 : W1.heap[(boxes w1 s).heap.size]? = some (.deferred (some [])) := (K1'.out.block _ (by rw [HBS.out]; exact HLT.out)).trans HDD.out
      refine ⟨by simp, .inl ⟨_, _, rfl, run_takeDeferred e1, ?_⟩⟩
      refine ⟨_, results_tmp rfl _ _ _, ?_⟩
      refine RowRes.good (by rw [HV.out, if_neg (by rw [HC.out]; decide)]) (by rw [HV.out, if_neg (by rw [HC.out]; decide)]; exact ((HVO.out.kept K1'.out).put (by rw [HBS.out]; omega) _).base_le (by omega)) ?_
      exact below_put (HB'.out.trans (Below.mono K1'.out HB'.out.size)) (by rw [HBS.out]; omega)
    · have HC := Lib.hid hc
      have HCW := Lib.hid (HCHK.out _ KD.out)
      clear hc
      go_wp2
      refine Code.wp_mono (Q := fun e a W => match e with | .panic c => c = [perr (chkL R)] ∧ Kept W' W ∧ a.defers = [{ target := .collected (boxes w1 s).heap.size, args := #[] }] | _ => False) ?post ?_
      case post =>
        intro e a' W1 h
        cases e <;> try exact h.elim
        obtain ⟨rfl, hk, hd⟩ := h
        obtain ⟨tm, df⟩ := a'
        dsimp only at hd
        subst hd
        have e1 : W1.heap[(boxes w1 s).heap.size]? = some (.deferred (some [])) := (hk.block _ (by rw [HBS.out]; exact HLT.out)).trans HDD.out
        refine ⟨by simp, .inl ⟨_, _, rfl, run_takeDeferred e1, ?_⟩⟩
        exact RowRes.bad (by rw [HV.out, if_pos HC.out]) HC.out (below_put (HB'.out.trans (Below.mono hk HB'.out.size)) (by rw [HBS.out]; omega))
      refine wp_region_held_drew (S := fun W => W.cell? ⟨w.heap.size + 1, 0, none⟩ = some (.slice av R.length cv) ∧ Kept W' W) (by kernel_rfl) ⟨f1, KD.out⟩ (fun hHeld => ?_)
      refine wpAnyH_take (i := 0) (v := ?_) rfl (by kernel_rfl) (by kernel_rfl) (by kernel_rfl) (fun _ _ _ h => h) (Or.inl ⟨by rfl, (by intro w hSw; obtain ⟨s1, _⟩ := hSw; go_simp <;> with_reducible rfl)⟩) (by assumption) ?_
      try simp only [Act.put, List.setIfInBounds_toArray, List.set_cons_zero, List.set_cons_succ]
      refine wpAnyH_take (i := 1) (v := ?_) rfl (by kernel_rfl) (by kernel_rfl) (by kernel_rfl) (fun _ _ _ h => h) (Or.inl ⟨by rfl, (by intro w hSw; obtain ⟨s1, _⟩ := hSw; go_simp <;> with_reducible rfl)⟩) (by assumption) ?_
      try simp only [Act.put, List.setIfInBounds_toArray, List.set_cons_zero, List.set_cons_succ]
      refine wpAnyH_take (i := 2) (v := ?_) rfl (by kernel_rfl) (by kernel_rfl) (by kernel_rfl) (fun _ _ _ h => h) (Or.inl ⟨by rfl, (by intro w hSw; obtain ⟨s1, _⟩ := hSw; go_simp <;> with_reducible rfl)⟩) (by assumption) ?_
      try simp only [Act.put, List.setIfInBounds_toArray, List.set_cons_zero, List.set_cons_succ]
      refine wpAnyH_ready (rs := [3]) (by kernel_rfl) (by simp) (AllReadyH.cons rfl (fun K hK => ?_) AllReadyH.nil)
      go_simp
      refine HCW.out.mono ?_
      rintro e1 W1 ⟨rfl, k1⟩
      have K1 := Lib.hid k1
      refine hK.out _ _ ⟨cell_later k1 f1, KD.out.trans k1⟩ (fun hHeld2 => ?_)
      clear hK K k1
      try simp only [Act.put, List.setIfInBounds_toArray, List.set_cons_zero, List.set_cons_succ]
      refine wpAnyH_ready (rs := [4]) (by kernel_rfl) (by simp) (AllReadyH.cons rfl (fun K hK => ?_) AllReadyH.nil)
      go_simp
      refine (soundT_bad _ _ _ HC.out).mono ?_
      rintro e2 w2 ⟨rfl, rfl⟩
      first | exact ⟨rfl, KD.out.trans K1.out⟩ | exact ⟨rfl, rfl, KD.out.trans K1.out, rfl⟩ | exact ⟨rfl, KD.out.trans K1.out, rfl⟩

end Go.Proofs.YtflllkpnkcmegaaGreatDoor

/- parse: the closure, the recovery, the face. -/
namespace Go.Proofs.YtflllkpnkcmegaaGreatDoor
open Go.RowKit
set_option linter.unusedVariables false

end Go.Proofs.YtflllkpnkcmegaaGreatDoor

/- parseSel: the closure, the recovery, the face. -/
namespace Go.Proofs.YtflllkpnkcmegaaGreatDoor
open Go.RowKit
set_option linter.unusedVariables false

theorem caughtT_panicking (B : Nat) (q : Nat) (x y : Int) (w : World) (hq : w.cell? ⟨q, 0, none⟩ = some (.int .i64 y)) (hzq : w.frozen? ⟨q, 0, none⟩ = false) (hBq : B ≤ q) :
    CallsD Tryz.prog 194 #[.pointer (some ⟨q, 0, none⟩)] (.panicking [perr x]) w fun e u' w' =>
      e = .returned (.tuple #[]) ∧ u' = .panicking [{ perr x with recovered := true }] ∧ w'.cell? ⟨q, 0, none⟩ = some (.int .i64 x) ∧ Below B w w' := by
  have hta : ∀ W, (Instr.typeAssert (.iface 41 (.int .i64 x)) 20 41 false).run Tryz.prog W = .ok (.int .i64 x) W := fun _ => by kernel_rfl
  refine callsD_of_wpS Tryz.func194 rfl fun c₀ cs hu => ?_
  apply wpS_seq
  apply wpS_region
  simp [wpOpsS, go_sem, recoverD, hu, Tryz.ntmps194, Exit.thenS]
  apply wpS_seq
  apply wpS_region
  simp [wpOpsS, go_sem, recoverD, Exit.thenS]
  refine wpS_cond (t := true) (by simp [Act.eval, Array.replicate]) ?_
  simp only [if_true]
  refine wpS_of_wp ?_
  simp [Array.replicate]
  go_wp2
  simp [bodyPostS, results, Tryz.results194]
  exact ⟨World.cell?_setCell_same' _ _ _ (by rw [hq]; rfl), (Below.refl B w).setCell (p := ⟨q, 0, none⟩) hBq _⟩

theorem caughtT_idle (q : Addr) (w : World) :
    CallsD Tryz.prog 194 #[.pointer (some q)] .returning w fun e u' w' => e = .returned (.tuple #[]) ∧ u' = .returning ∧ w' = w := by
  refine callsD_of_wpS Tryz.func194 rfl fun c₀ cs hu => ?_
  apply wpS_seq
  apply wpS_region
  simp [wpOpsS, go_sem, recoverD, hu, Tryz.ntmps194, Exit.thenS]
  apply wpS_seq
  apply wpS_region
  simp [wpOpsS, go_sem, recoverD, hu, Exit.thenS]
  refine wpS_cond (t := false) (by simp [Act.eval, Array.replicate]) ?_
  simp only [Bool.false_eq_true, if_false]
  refine wpS_of_wp (wp_skip ?_)
  cases c₀
  simp_all [bodyPostS, results, Tryz.results194]

/-- What a call answers that recovers: a row and an error. -/
def DoneT (r : Int × TL) (w : World) (e : Ending) (w' : World) : Prop :=
  ∃ v, e = .returned (.tuple #[v, .int .i64 r.1]) ∧ Own TermLay 89 w' w.heap.size v r.2 ∧ Kept w w'

set_option maxHeartbeats 800000 in
theorem caughtT_any (C : Addr) (r : Int × TL) (w : World) (hr : r.1 ≠ 0 → r.2 = [])
    (hk : ∀ W, Kept w W → Calls Tryz.prog 170 #[.pointer (some C)] W (RowRes TermLay 89 r W.heap.size W)) :
    Calls Tryz.prog 169 #[.func (.func 170) #[] #[.pointer (some C)]] w (DoneT r w) := by
  have hmf : ∀ (fn : Fn) (first cap : Array Value) (w : World), (Instr.makeFunc fn first cap).run Tryz.prog w = .ok (.func fn first cap) w := fun _ _ _ _ => rfl
  have HK := Lib.hid hk
  have HR := Lib.hid hr
  clear hk hr
  obtain ⟨r1, r2⟩ := r
  go_enter_defers Tryz.func169, Tryz.ntmps169
  go_wp2_with fail
  refine (HK.out _ (kept_alloc _ _)).mono ?_
  rintro e1 w1 ⟨h0, h1, hb⟩
  have k1 := hb.size
  simp only [World.size_alloc] at k1
  have c2 := (hb.cell (p := ⟨w.heap.size, 0, none⟩) (by simp))
  have z2 := (hb.frozen (p := ⟨w.heap.size, 0, none⟩) (by simp))
  have e2' : w1.cell? ⟨w.heap.size, 0, none⟩ = some (.int .i64 0) := by rw [c2]; go_simp
  have y2 : w1.frozen? ⟨w.heap.size, 0, none⟩ = false := by rw [z2]; go_simp
  clear c2 z2
  have KB := Lib.hid (show Below w.heap.size w w1 from (kept_alloc w _).trans hb)
  by_cases hx : r1 = 0
  · subst hx
    obtain ⟨v, rfl, ho⟩ := h0 rfl
    have HO := Lib.hid ho
    obtain ⟨av, cv, rfl, _, _, _⟩ := ho.at_
    have hsz := World.size_alloc w (.cells #[.int .i64 0] 41)
    clear h0 h1 hb ho
    go_wp2_with fail
    refine leaves_cons (f := 194) (args := #[.pointer (some ⟨w.heap.size, 0, none⟩)]) (by simp) (by simp [go_sem]) ?_
    refine (caughtT_idle ⟨w.heap.size, 0, none⟩ _).mono ?_
    rintro e u' w'' ⟨rfl, rfl, rfl⟩
    simp [Leaves, settle, results, Tryz.results169, go_sem, e2']
    exact ⟨_, rfl, (HO.out.setCell_below (a := ⟨w.heap.size, 0, none⟩) (by simp) _).base_le (by simp), (KB.out.setCell (p := ⟨w.heap.size, 0, none⟩) (Nat.le_refl _) _)⟩
  · obtain rfl := h1 hx
    obtain rfl := HR.out hx
    clear h0 h1 hb
    go_wp2_with fail
    refine leaves_cons (f := 194) (args := #[.pointer (some ⟨w.heap.size, 0, none⟩)]) (by simp) (by simp [go_sem]) ?_
    refine (caughtT_panicking w.heap.size w.heap.size r1 0 _ e2' y2 (by omega)).mono ?_
    rintro e u' w'' ⟨rfl, rfl, q2, q3⟩
    simp [Leaves, settle, results, Tryz.results169, go_sem, q2]
    exact ⟨_, rfl, Own.nil _ _ _, KB.out.trans q3⟩

theorem parsedT_all (s : List UInt8) (w : World) (hE : Env w) (hs : s.length ≤ 1000000) :
    Calls Tryz.prog 171 #[.string (bytes s), .func (.func 172) #[] #[], .func (.func 59) #[] #[]] w (RowRes TermLay 89 (parsedT s) w.heap.size w) := by
  by_cases h : s = [45]
  · subst h; exact parsedT_dash w
  · exact parsedT_any s w hE hs h

theorem closureT (C : Addr) (s : List UInt8) (w : World) (h1 : w.cell? C = some (.string (bytes s))) (hE : Env w) (hs : s.length ≤ 1000000) :
    Calls Tryz.prog 170 #[.pointer (some C)] w (RowRes TermLay 89 (parsedT s) w.heap.size w) := by
  have HE := Lib.hid hE
  clear hE
  go_enter Tryz.func170, Tryz.ntmps170
  go_wp2_with fail
  refine (parsedT_all s _ HE.out hs).mono ?_
  rintro e w' ⟨g0, g1, k⟩
  by_cases hx : (parsedT s).1 = 0
  · obtain ⟨v, rfl, ho⟩ := g0 hx
    have HX := Lib.hid hx
    have HO := Lib.hid ho
    have HK := Lib.hid k
    clear g0 g1 hx ho k
    go_wp2
    go_ret
    exact RowRes.good HX.out HO.out HK.out
  · obtain rfl := g1 hx
    have HX := Lib.hid hx
    have HK := Lib.hid k
    clear g0 g1 hx k
    go_wp2
    exact ⟨rfl, RowRes.bad rfl HX.out HK.out⟩

set_option maxHeartbeats 800000 in
theorem parseSel_any (s : List UInt8) (w : World) (hE : Env w) (hs : s.length ≤ 1000000) :
    Calls Tryz.prog 126 #[.string (bytes s)] w (DoneT (parsedT s) w) := by
  have hmf : ∀ (fn : Fn) (first cap : Array Value) (w : World), (Instr.makeFunc fn first cap).run Tryz.prog w = .ok (.func fn first cap) w := fun _ _ _ _ => rfl
  have hC : ∀ W, Kept (w.alloc (.cells #[.string (bytes s)] 9)) W → Calls Tryz.prog 170 #[.pointer (some ⟨w.heap.size, 0, none⟩)] W (RowRes TermLay 89 (parsedT s) W.heap.size W) := by
    intro W k
    have c1 := k.cell (p := ⟨w.heap.size, 0, none⟩) (by simp)
    exact closureT ⟨w.heap.size, 0, none⟩ s W (by rw [c1]; go_simp) (hE.kept ((kept_alloc w _).trans k)) hs
  have HC := Lib.hid hC
  clear hC hE hs
  go_enter Tryz.func126, Tryz.ntmps126
  go_wp2_with fail
  refine (caughtT_any ⟨w.heap.size, 0, none⟩ (parsedT s) _ parsedG_none HC.out).mono ?_
  rintro e w' ⟨v, rfl, ho, k⟩
  have HO := Lib.hid ho
  have HK := Lib.hid k
  clear ho k
  go_wp2
  go_ret2
  exact ⟨v, rfl, HO.out.base_le (by simp), (kept_alloc w _).trans HK.out⟩

end Go.Proofs.YtflllkpnkcmegaaGreatDoor

/- Each call of package label, asked of values that read so. -/
namespace Go.Proofs.YtflllkpnkcmegaaGreatDoor
open Go.RowKit
set_option linter.unusedVariables false

theorem checkSelR {v : Value} {l : TL} {c : Int} {w : World} (h : Reads TermLay w v l) (hc : chkL l = c) :
    Calls Tryz.prog 59 #[v] w (Say (.int .i64 c) w) := by
  obtain ⟨a, cap, rfl, _, _, hr⟩ := h
  exact (checkSel_any a _ cap l w hr).mono fun e w' ⟨he, k⟩ => ⟨by rw [he, hc], k⟩
theorem matchR {v v' : Value} {l : TL} {s : PL} {b : Bool} {w : World} (h : Reads TermLay w v l) (h' : Reads PairLay w v' s) (hb : matchT l s = b) :
    Calls Tryz.prog 153 #[v, v'] w (Say (.bool b) w) := by
  obtain ⟨a, cap, rfl, _, _, hr⟩ := h
  obtain ⟨a', cap', rfl, _, _, hr'⟩ := h'
  exact (match_any a a' _ cap _ cap' l s w hr hr').mono fun e w' ⟨he, k⟩ => ⟨by rw [he, hb], k⟩
theorem selTextR {v : Value} {l : TL} {t : ByteArray} {w : World} (h : Reads TermLay w v l) (hf : ∀ x ∈ l, x.2.1.size ≤ 1000000 ∧ x.2.2.size ≤ 1000000) (hn : l.length ≤ 1000000) (ht : textL l = t) :
    Calls Tryz.prog 82 #[v] w (Say (.string t) w) := by
  obtain ⟨a, cap, rfl, _, _, hr⟩ := h
  exact (selText_any a _ cap l w hr hf hn).mono fun e w' ⟨he, k⟩ => ⟨by rw [he, ht], k⟩

theorem lit_pair (w : World) (x y : ByteArray) (T : TypeId) (hx : x.size ≤ maxLen) (hy : y.size ≤ maxLen) :
    Reads PairLay (w.alloc (.cells #[.string x, .string y] T)) (.slice (some ⟨w.heap.size, 0, none⟩) 1 1) [(x, y)] := by
  have hh := w.alloc_heap_new (.cells #[.string x, .string y] T)
  refine ⟨_, 1, rfl, Nat.le_refl _, by decide, rfl, (by decide : 1 ≤ maxLen), fun z hz => ?_, .inr ⟨w.heap.size, 0, rfl, by simp, fun i z j u hi hj => ?_⟩⟩
  · have : z = (x, y) := by simpa using hz
    subst this; exact ⟨hx, hy⟩
  · match i, hi with
    | 0, hi =>
      have hz : (x, y) = z := by simpa using hi
      subst hz
      match j, hj with
      | 0, hj => have : Value.string x = u := by simpa [PairLay] using hj
                 subst this; rw [Lib.cell_of_heap hh]; rfl
      | 1, hj => have : Value.string y = u := by simpa [PairLay] using hj
                 subst this; rw [Lib.cell_of_heap hh]; rfl
      | j + 2, hj => simp [PairLay] at hj
    | i + 1, hi => simp at hi

end Go.Proofs.YtflllkpnkcmegaaGreatDoor

/- Whether labels, a selector are short; the reference's checks. -/
namespace Go.Proofs.YtflllkpnkcmegaaGreatDoor
open Go.RowKit
set_option linter.unusedVariables false

def fewT (x : Int × ByteArray × ByteArray) : Bool := decide (x.2.1.size ≤ 50) && decide (x.2.2.size ≤ 50)
def fewL (l : TL) : Bool := decide (l.length ≤ 20) && l.all fewT
set_option maxHeartbeats 800000 in
theorem fewSel_any (a : Option Addr) (len cap : Nat) (l : TL) (w : World) (hr : RowAt TermLay w a len l) :
    Calls Tryz.prog 43 #[.slice a len cap] w fun e w' => e = .returned (.bool (fewL l)) ∧ w = w' := by
  have hl := hr.1
  have hm := hr.2.1
  unfold maxLen at hm
  by_cases h20 : len ≤ 20
  · have HV := Lib.hid (show fewL l = l.all fewT by unfold fewL; rw [decide_eq_true (by omega)]; rfl)
    rcases hr.form with h0 | ⟨b, off, rfl⟩
    · subst h0
      have HE := Lib.hid (show fewL l = true by rw [HV.out, List.eq_nil_of_length_eq_zero hl]; rfl)
      clear hr hl
      go_enter Tryz.func43, Tryz.ntmps43
      go_wp2
      refine wp_loop_rounds 1 ?_
      rw [rounds_succ]
      go_wp2
      go_ret
      exact ⟨ret_bool HE.out.symm, rfl⟩
    · have HR := Lib.hid hr
      have HL := Lib.hid hl
      clear hr hl
      go_enter Tryz.func43, Tryz.ntmps43
      go_wp2
      go_loop [3] (fun i => ∃ k : Nat, k ≤ len ∧ i = .int .i64 k ∧ (l.drop k).all fewT = l.all fewT) (fun i => len - (intOf i).toNat)
      case atStart => exact ⟨0, Nat.zero_le _, rfl, rfl⟩
      case round =>
        obtain ⟨k, hk, rfl, hrest⟩ := hrel
        by_cases hlt : k < len
        · obtain ⟨o, x, y, hx, hd, hb, ho, hz, hz2, c0, c1, c2⟩ := HR.out.term hlt
          have HT := Lib.hid (hrest.symm.trans ((congrArg (fun z => z.all fewT) hd).trans (all_cons _ _ _)))
          clear hrest hx hd
          unfold maxLen at hz hz2
          by_cases e : x.size ≤ 50
          · by_cases e2 : y.size ≤ 50
            · have E := Lib.hid (show fewT (o, x, y) = true by unfold fewT; rw [decide_eq_true e, decide_eq_true e2]; rfl)
              go_wp2
              go_round
              case rel => exact ⟨k + 1, by omega, by go_num, (HT.out.trans (by rw [E.out]; exact Bool.true_and _)).symm⟩
              case measure => simp [intOf]; omega
            · have E := Lib.hid (show fewT (o, x, y) = false by unfold fewT; rw [decide_eq_false e2]; exact Bool.and_false _)
              have e2' : 50 < y.size := by omega
              clear e2
              go_wp2
              go_ret
              exact ⟨ret_bool (HV.out.trans (HT.out.trans (by rw [E.out]; exact Bool.false_and _))).symm, rfl⟩
          · have E := Lib.hid (show fewT (o, x, y) = false by unfold fewT; rw [decide_eq_false e]; exact Bool.false_and _)
            have e' : 50 < x.size := by omega
            clear e
            go_wp2
            go_ret
            exact ⟨ret_bool (HV.out.trans (HT.out.trans (by rw [E.out]; exact Bool.false_and _))).symm, rfl⟩
        · have HS := Lib.hid ((HV.out.trans hrest.symm).trans (congrArg (fun z => z.all fewT) (drop_end (by rw [HL.out]; exact hlt))))
          clear hrest
          go_wp2
          go_ret
          exact ⟨ret_bool (HS.out.trans rfl).symm, rfl⟩
  · have HV := Lib.hid (show fewL l = false by unfold fewL; rw [decide_eq_false (by omega)]; rfl)
    have h9 : 20 < len := by omega
    clear h20 hr hl
    go_enter Tryz.func43, Tryz.ntmps43
    go_wp2
    go_ret
    exact ⟨ret_bool HV.out.symm, rfl⟩

set_option maxHeartbeats 800000 in
theorem refCheckSet_any (a : Option Addr) (len cap : Nat) (l : PL) (w : World) (hr : RowAt PairLay w a len l) :
    Calls Tryz.prog 51 #[.slice a len cap] w fun e w' => e = .returned (.int .i64 (chkS l)) ∧ Kept w w' := by
  have hl := hr.1
  have hm := hr.2.1
  unfold maxLen at hm
  by_cases h8 : len ≤ 8
  · have HV := Lib.hid (show chkS l = chkFrom none l by unfold chkS; rw [if_neg (by omega)])
    rcases hr.form with h0 | ⟨b, off, rfl⟩
    · subst h0
      have HE := Lib.hid (show chkS l = 0 by rw [HV.out]; rw [List.eq_nil_of_length_eq_zero hl]; rfl)
      clear hr hl
      go_enter Tryz.func51, Tryz.ntmps51
      go_wp2
      refine wp_loop_rounds 1 ?_
      rw [rounds_succ]
      go_wp2
      go_ret
      exact ⟨ret_i64 HE.out.symm, Kept.refl _⟩
    · have HR := Lib.hid hr
      have HL := Lib.hid hl
      clear hr hl
      go_enter Tryz.func51, Tryz.ntmps51
      go_wp2
      go_loopw [3] (fun i wr => ∃ k : Nat, k ≤ len ∧ i = .int .i64 k ∧ chkFrom (prevP l k) (l.drop k) = chkFrom none l ∧ Kept w wr) (fun i _ => len - (intOf i).toNat)
      case atStart => exact ⟨0, Nat.zero_le _, rfl, rfl, Kept.refl _⟩
      case round =>
        obtain ⟨k, hk, rfl, hrest, hK⟩ := hrel
        by_cases hlt : k < len
        · obtain ⟨x, y, hx, hd, hb, hz, hz2, c1, c2⟩ := (HR.out.kept hK).pair hlt
          have HX := Lib.hid hx
          have HK := Lib.hid hK
          have HT := Lib.hid (hrest.symm.trans (congrArg (chkFrom (prevP l k)) hd))
          have HS := Lib.hid (HV.out.trans HT.out)
          clear hK hrest hx hd
          by_cases n1 : isName x = true
          · by_cases n2 : isName y = true
            · have N1 := Lib.hid n1
              have N2 := Lib.hid n2
              by_cases h0 : k = 0
              · have hd : decide (0 < k) = false := by subst h0; decide
                have HP := Lib.hid (behind_zero (l := l) h0 x)
                clear h0
                go_wp2_with (go_at_call 49; refine (refName_any _ _ (by assumption)).mono ?_; rintro e w' ⟨rfl, rfl⟩)
                go_quiet (fail)
                go_wp2
                go_roundw
                case rel => exact ⟨k + 1, by omega, by go_num, by rw [prev_succ HX.out]; exact (chk_next N1.out N2.out HP.out).symm.trans HT.out.symm, HK.out.trans (Kept.drewN _ _)⟩
                case measure => simp [intOf]; omega
              · have hd : decide (0 < k) = true := by simp; omega
                have g1 : 0 ≤ (k : Int) - 1 := by omega
                have g2 : (k : Int) - 1 < (len : Int) := by omega
                have g3 : ((k : Int) - 1).toNat = k - 1 := by omega
                obtain ⟨px, py, hpx, _, _, _, _, d1, d2⟩ := (HR.out.kept HK.out).pair (show k - 1 < len by omega)
                have HP := Lib.hid (behind_prev (l := l) h0 hpx x)
                clear hpx
                by_cases n3 : leS x px = true
                · have n3' : (Op.bytesLess x.toList px.toList || x.toList == px.toList) = true := n3
                  have N3 := Lib.hid n3
                  clear n3
                  go_wp2_with (go_at_call 49; refine (refName_any _ _ (by assumption)).mono ?_; rintro e w' ⟨rfl, rfl⟩)
                  go_quiet (fail)
                  go_wp2
                  go_ret
                  exact ⟨ret_i64 (HS.out.trans (chk_order N1.out N2.out (HP.out.trans N3.out))).symm, HK.out.trans (Kept.drewN _ _)⟩
                · have n3 : leS x px = false := by simpa using n3
                  have n3' : (Op.bytesLess x.toList px.toList || x.toList == px.toList) = false := n3
                  have N3 := Lib.hid n3
                  clear n3
                  go_wp2_with (go_at_call 49; refine (refName_any _ _ (by assumption)).mono ?_; rintro e w' ⟨rfl, rfl⟩)
                  go_quiet (fail)
                  go_wp2
                  go_roundw
                  case rel => exact ⟨k + 1, by omega, by go_num, by rw [prev_succ HX.out]; exact (chk_next N1.out N2.out (HP.out.trans N3.out)).symm.trans HT.out.symm, HK.out.trans (Kept.drewN _ _)⟩
                  case measure => simp [intOf]; omega
            · have n2 : isName y = false := by simpa using n2
              have N := Lib.hid (show (isName x && isName y) = false by rw [n2, Bool.and_false])
              go_wp2_with (go_at_call 49; refine (refName_any _ _ (by assumption)).mono ?_; rintro e w' ⟨rfl, rfl⟩)
              go_ret
              exact ⟨ret_i64 (HS.out.trans (chk_name N.out)).symm, HK.out⟩
          · have n1 : isName x = false := by simpa using n1
            have N := Lib.hid (show (isName x && isName y) = false by rw [n1, Bool.false_and])
            go_wp2_with (go_at_call 49; refine (refName_any x _ hz).mono ?_; rintro e w' ⟨rfl, rfl⟩)
            go_ret
            exact ⟨ret_i64 (HS.out.trans (chk_name N.out)).symm, HK.out⟩
        · have HK := Lib.hid hK
          have HS := Lib.hid ((HV.out.trans hrest.symm).trans (congrArg (chkFrom (prevP l k)) (drop_end (by rw [HL.out]; exact hlt))))
          clear hK hrest
          go_wp2
          go_ret
          exact ⟨ret_i64 (HS.out.trans rfl).symm, HK.out⟩
  · have HV := Lib.hid (show chkS l = 4 by unfold chkS; rw [if_pos (by omega)])
    have h9 : 8 < len := by omega
    clear h8 hr hl
    go_enter Tryz.func51, Tryz.ntmps51
    go_wp2
    go_ret
    exact ⟨ret_i64 HV.out.symm, Kept.refl _⟩


set_option maxHeartbeats 1600000 in
theorem refCheckSel_any (a : Option Addr) (len cap : Nat) (l : TL) (w : World) (hr : RowAt TermLay w a len l) :
    Calls Tryz.prog 52 #[.slice a len cap] w fun e w' => e = .returned (.int .i64 (chkL l)) ∧ Kept w w' := by
  have hl := hr.1
  have hm := hr.2.1
  unfold maxLen at hm
  by_cases h8 : len ≤ 8
  · have HV := Lib.hid (show chkL l = chkLF l by unfold chkL; rw [if_neg (by omega)])
    rcases hr.form with h0 | ⟨b, off, rfl⟩
    · subst h0
      have HE := Lib.hid (show chkL l = 0 by rw [HV.out]; rw [List.eq_nil_of_length_eq_zero hl]; rfl)
      clear hr hl
      go_enter Tryz.func52, Tryz.ntmps52
      go_wp2
      refine wp_loop_rounds 1 ?_
      rw [rounds_succ]
      go_wp2
      go_ret
      exact ⟨ret_i64 HE.out.symm, Kept.refl _⟩
    · have HR := Lib.hid hr
      have HL := Lib.hid hl
      clear hr hl
      go_enter Tryz.func52, Tryz.ntmps52
      go_wp2
      go_loopw [3] (fun i wr => ∃ k : Nat, k ≤ len ∧ i = .int .i64 k ∧ chkLF (l.drop k) = chkLF l ∧ Kept w wr) (fun i _ => len - (intOf i).toNat)
      case atStart => exact ⟨0, Nat.zero_le _, rfl, rfl, Kept.refl _⟩
      case round =>
        obtain ⟨k, hk, rfl, hrest, hK⟩ := hrel
        by_cases hlt : k < len
        · obtain ⟨o, x, y, hx, hd, hb, ho, hz, hz2, c1, c2, c3⟩ := (HR.out.kept hK).term hlt
          have HK := Lib.hid hK
          have HT := Lib.hid (hrest.symm.trans ((congrArg chkLF hd).trans (chkLF_cons _ _)))
          have HS := Lib.hid (HV.out.trans HT.out)
          clear hK hrest hx hd
          by_cases g1 : o < 1
          · have N := Lib.hid (show chkT (o, x, y) = 1 by rw [chkT_eq, if_neg (by omega), if_neg (by omega)])
            go_wp2_with (go_at_call 49; refine (refName_any _ _ (by assumption)).mono ?_; rintro e w' ⟨rfl, rfl⟩)
            go_ret
            exact ⟨ret_i64 (HS.out.trans ((if_pos (by rw [N.out]; decide)).trans N.out)).symm, HK.out.trans (kept_alloc _ _)⟩
          · by_cases g4 : 4 < o
            · have g1' : ¬ o < 1 := g1
              have N := Lib.hid (show chkT (o, x, y) = 1 by rw [chkT_eq, if_neg (by omega), if_neg (by omega)])
              go_wp2_with (go_at_call 49; refine (refName_any _ _ (by assumption)).mono ?_; rintro e w' ⟨rfl, rfl⟩)
              go_ret
              exact ⟨ret_i64 (HS.out.trans ((if_pos (by rw [N.out]; decide)).trans N.out)).symm, HK.out.trans (kept_alloc _ _)⟩
            · have hcase : (o = 1 ∨ o = 2) ∨ (o = 3 ∨ o = 4) := by omega
              clear g1 g4
              rcases hcase with hcase | hcase
              · have hc := hcase
                by_cases n1 : isName x = true
                · by_cases n2 : isName y = true
                  · have NN := Lib.hid (show chkT (o, x, y) = 0 by rw [chkT_eq, if_pos hc, if_pos (by rw [n1, n2]; rfl)])
                    clear hc
                    rcases hcase with rfl | rfl
                    · have N := Lib.hid (NN.out)
                      go_wp2_with (go_at_call 49; refine (refName_any _ _ (by assumption)).mono ?_; rintro e w' ⟨rfl, rfl⟩)
                      go_roundw
                      case rel => exact ⟨k + 1, by omega, by go_num, (HT.out.trans (if_neg (by rw [N.out]; decide))).symm, HK.out.trans (kept_alloc _ _)⟩
                      case measure => simp [intOf]; omega
                    · have N := Lib.hid (NN.out)
                      go_wp2_with (go_at_call 49; refine (refName_any _ _ (by assumption)).mono ?_; rintro e w' ⟨rfl, rfl⟩)
                      go_roundw
                      case rel => exact ⟨k + 1, by omega, by go_num, (HT.out.trans (if_neg (by rw [N.out]; decide))).symm, HK.out.trans (kept_alloc _ _)⟩
                      case measure => simp [intOf]; omega
                  · have n2 : isName y = false := by simpa using n2
                    have NN := Lib.hid (show chkT (o, x, y) = 3 by rw [chkT_eq, if_pos hc, if_neg (by rw [n2, Bool.and_false]; decide)])
                    clear hc
                    rcases hcase with rfl | rfl
                    · have N := Lib.hid (NN.out)
                      go_wp2_with (go_at_call 49; refine (refName_any _ _ (by assumption)).mono ?_; rintro e w' ⟨rfl, rfl⟩)
                      go_ret
                      exact ⟨ret_i64 (HS.out.trans ((if_pos (by rw [N.out]; decide)).trans N.out)).symm, HK.out.trans (kept_alloc _ _)⟩
                    · have N := Lib.hid (NN.out)
                      go_wp2_with (go_at_call 49; refine (refName_any _ _ (by assumption)).mono ?_; rintro e w' ⟨rfl, rfl⟩)
                      go_ret
                      exact ⟨ret_i64 (HS.out.trans ((if_pos (by rw [N.out]; decide)).trans N.out)).symm, HK.out.trans (kept_alloc _ _)⟩
                · have n1 : isName x = false := by simpa using n1
                  have NN := Lib.hid (show chkT (o, x, y) = 3 by rw [chkT_eq, if_pos hc, if_neg (by rw [n1, Bool.false_and]; decide)])
                  clear hc
                  rcases hcase with rfl | rfl
                  · have N := Lib.hid (NN.out)
                    go_wp2_with (go_at_call 49; refine (refName_any _ _ (by assumption)).mono ?_; rintro e w' ⟨rfl, rfl⟩)
                    go_ret
                    exact ⟨ret_i64 (HS.out.trans ((if_pos (by rw [N.out]; decide)).trans N.out)).symm, HK.out.trans (kept_alloc _ _)⟩
                  · have N := Lib.hid (NN.out)
                    go_wp2_with (go_at_call 49; refine (refName_any _ _ (by assumption)).mono ?_; rintro e w' ⟨rfl, rfl⟩)
                    go_ret
                    exact ⟨ret_i64 (HS.out.trans ((if_pos (by rw [N.out]; decide)).trans N.out)).symm, HK.out.trans (kept_alloc _ _)⟩
              · have hc := hcase
                have hn : ¬ (o = 1 ∨ o = 2) := by omega
                by_cases n1 : isName x = true
                · by_cases n2 : eqS y ByteArray.empty = true
                  · have NN := Lib.hid (show chkT (o, x, y) = 0 by rw [chkT_eq, if_neg hn, if_pos hc, if_pos (by rw [n1, n2]; rfl)])
                    have n2' : (y.toList == ([] : List UInt8)) = true := by unfold eqS at n2; simpa using n2
                    clear hc hn n2
                    rcases hcase with rfl | rfl
                    · have N := Lib.hid (NN.out)
                      go_wp2_with (go_at_call 49; refine (refName_any _ _ (by assumption)).mono ?_; rintro e w' ⟨rfl, rfl⟩)
                      go_roundw
                      case rel => exact ⟨k + 1, by omega, by go_num, (HT.out.trans (if_neg (by rw [N.out]; decide))).symm, HK.out.trans (kept_alloc _ _)⟩
                      case measure => simp [intOf]; omega
                    · have N := Lib.hid (NN.out)
                      go_wp2_with (go_at_call 49; refine (refName_any _ _ (by assumption)).mono ?_; rintro e w' ⟨rfl, rfl⟩)
                      go_roundw
                      case rel => exact ⟨k + 1, by omega, by go_num, (HT.out.trans (if_neg (by rw [N.out]; decide))).symm, HK.out.trans (kept_alloc _ _)⟩
                      case measure => simp [intOf]; omega
                  · have n2 : eqS y ByteArray.empty = false := by simpa using n2
                    have NN := Lib.hid (show chkT (o, x, y) = 3 by rw [chkT_eq, if_neg hn, if_pos hc, if_neg (by rw [n2, Bool.and_false]; decide)])
                    have n2' : (y.toList == ([] : List UInt8)) = false := by unfold eqS at n2; simpa using n2
                    clear hc hn n2
                    rcases hcase with rfl | rfl
                    · have N := Lib.hid (NN.out)
                      go_wp2_with (go_at_call 49; refine (refName_any _ _ (by assumption)).mono ?_; rintro e w' ⟨rfl, rfl⟩)
                      go_ret
                      exact ⟨ret_i64 (HS.out.trans ((if_pos (by rw [N.out]; decide)).trans N.out)).symm, HK.out.trans (kept_alloc _ _)⟩
                    · have N := Lib.hid (NN.out)
                      go_wp2_with (go_at_call 49; refine (refName_any _ _ (by assumption)).mono ?_; rintro e w' ⟨rfl, rfl⟩)
                      go_ret
                      exact ⟨ret_i64 (HS.out.trans ((if_pos (by rw [N.out]; decide)).trans N.out)).symm, HK.out.trans (kept_alloc _ _)⟩
                · have n1 : isName x = false := by simpa using n1
                  have NN := Lib.hid (show chkT (o, x, y) = 3 by rw [chkT_eq, if_neg hn, if_pos hc, if_neg (by rw [n1, Bool.false_and]; decide)])
                  clear hc hn
                  rcases hcase with rfl | rfl
                  · have N := Lib.hid (NN.out)
                    go_wp2_with (go_at_call 49; refine (refName_any _ _ (by assumption)).mono ?_; rintro e w' ⟨rfl, rfl⟩)
                    go_ret
                    exact ⟨ret_i64 (HS.out.trans ((if_pos (by rw [N.out]; decide)).trans N.out)).symm, HK.out.trans (kept_alloc _ _)⟩
                  · have N := Lib.hid (NN.out)
                    go_wp2_with (go_at_call 49; refine (refName_any _ _ (by assumption)).mono ?_; rintro e w' ⟨rfl, rfl⟩)
                    go_ret
                    exact ⟨ret_i64 (HS.out.trans ((if_pos (by rw [N.out]; decide)).trans N.out)).symm, HK.out.trans (kept_alloc _ _)⟩
        · have HK := Lib.hid hK
          have HS := Lib.hid ((HV.out.trans hrest.symm).trans (congrArg chkLF (drop_end (by rw [HL.out]; exact hlt))))
          clear hK hrest
          go_wp2
          go_ret
          exact ⟨ret_i64 (HS.out.trans rfl).symm, HK.out⟩
  · have HV := Lib.hid (show chkL l = 4 by unfold chkL; rw [if_pos (by omega)])
    have h9 : 8 < len := by omega
    clear h8 hr hl
    go_enter Tryz.func52, Tryz.ntmps52
    go_wp2
    go_ret
    exact ⟨ret_i64 HV.out.symm, Kept.refl _⟩

end Go.Proofs.YtflllkpnkcmegaaGreatDoor

/- Labels, a selector as the document's: as they are. -/
namespace Go.Proofs.YtflllkpnkcmegaaGreatDoor
open Go.RowKit
set_option linter.unusedVariables false

theorem refInfoP : (Tryz.prog.info? 157).map (fun i => (i.zero, i.size, i.bytes)) = some (some (.agg #[.string ByteArray.empty, .string ByteArray.empty]), 2, 32) := by kernel_rfl

theorem refInfoT : (Tryz.prog.info? 158).map (fun i => (i.zero, i.size, i.bytes)) = some (some (.agg #[.int .i64 0, .string ByteArray.empty, .string ByteArray.empty]), 3, 40) := by kernel_rfl

set_option maxRecDepth 100000 in
set_option maxHeartbeats 1600000 in
theorem ofSel_own (a : Option Addr) (len cap : Nat) (l : TL) (w : World) (hr : RowAt TermLay w a len l) (hlen : len ≤ 1000000) :
    Calls Tryz.prog 47 #[.slice a len cap] w (fun e w' => ∃ x, e = .returned x ∧ Own TermLay 158 w' w.heap.size x l ∧ Kept w w') := by
  have hl := hr.1
  obtain ⟨i0, hi, hz0, hz1, hz2'⟩ := info_parts refInfoT
  rcases hr.form with h0 | ⟨b, off, rfl⟩
  · subst h0
    have hl0 : l = [] := List.eq_nil_of_length_eq_zero hl
    subst hl0
    clear hr hl hi hz0 hz1 hz2'
    go_enter Tryz.func47, Tryz.ntmps47
    go_wp2
    refine wp_loop_rounds 1 ?_
    rw [rounds_succ]
    go_wp2
    go_ret
    exact ⟨_, rfl, Own.nil _ _ _, Kept.refl _⟩
  · have HR := Lib.hid hr
    have HL := Lib.hid hl
    clear hr hl
    go_enter Tryz.func47, Tryz.ntmps47
    go_wp2
    go_loopw [3, 4] (fun v i wr => ∃ k : Nat, k ≤ len ∧ i = .int .i64 k ∧ Own TermLay 158 wr w.heap.size v (l.take k) ∧ Below w.heap.size w wr) (fun _ i _ => len - (intOf i).toNat)
    case atStart => exact ⟨0, Nat.zero_le _, rfl, Own.nil _ _ _, Below.refl _ _⟩
    case round =>
      obtain ⟨k, hk, rfl, ho, hB⟩ := hrel
      have HO := Lib.hid ho
      have HB := Lib.hid hB
      have HT := Lib.hid (show (l.take k).length = k by rw [List.length_take, HL.out]; omega)
      have HOWN := Lib.hid (show wr.ownsRow w.heap.size 158 3 u3 k (rowCells TermLay (l.take k)) by have := HO.out.1; rw [HT.out] at this; exact this)
      by_cases hlt : k < len
      · obtain ⟨o, x, y, hx, hd, hb, ho9, hz, hz2, c0, c1, c2⟩ := (HR.out.kept hB).term hlt
        have HX := Lib.hid hx
        have hbw : b < w.heap.size := by obtain ⟨z, _, _, h, _⟩ := HR.out.cells hlt; exact h
        have hbase : w.heap.size ≤ wr.heap.size := hB.size
        have HNE := Lib.hid (show u3.ownBlock ≠ some b by
          intro e
          have := (HOWN.out.lt b e).1
          omega)
        have HBASE := Lib.hid (show w.heap.size ≤ (wr.alloc (.cells #[.int .i64 o, .string x, .string y] 158)).drew.heap.size by simp; omega)
        have HBD := Lib.hid (show Below w.heap.size w ((wr.alloc (.cells #[.int .i64 o, .string x, .string y] 158)).drew) from HB.out.trans (Below.mono ((kept_alloc wr _).trans (Kept.drewN _ 1)) hbase))
        have hk1 : (k : Int) < (len : Int) := by omega
        have HFK := Lib.hid (show TermLay.fine (o, x, y) from ⟨ho9, hz, hz2⟩)
        clear ho hB hx hd hz hz2
        go_wp2_with fail
        go_region_held3 (fun W => W.cell? ⟨b, off + k * 3, none⟩ = some (.int .i64 o) ∧ W.cell? ⟨b, off + k * 3 + 1, none⟩ = some (.string x) ∧ W.cell? ⟨b, off + k * 3 + 2, none⟩ = some (.string y))
          (first
            | go_keep
            | (go_split_ands
               refine ⟨?_, ?_, ?_⟩
               · (refine (hgrow.cell_far ⟨b, off + k * 3, none⟩ (by simp; omega) (Ne.symm HNE.out)).trans ?_; assumption)
               · (refine (hgrow.cell_far ⟨b, off + k * 3 + 1, none⟩ (by simp; omega) (Ne.symm HNE.out)).trans ?_; assumption)
               · (refine (hgrow.cell_far ⟨b, off + k * 3 + 2, none⟩ (by simp; omega) (Ne.symm HNE.out)).trans ?_; assumption)))
          ((refine step_append_lies _ (by rfl) _ _ _ (by rfl) w.heap.size 158 i0 _ 3 40 Tryz.underlying35 hi hz0 hz1 hz2' rfl (by decide) u3 k (rowCells TermLay (l.take k)) (by rfl) ((HOWN.out.alloc _).drew)
                ⟨wr.heap.size, 0, none⟩ 1 1 [.int .i64 o, .string x, .string y] (by rfl) (by rfl) (World.news_of_block (cs := #[.int .i64 o, .string x, .string y]) (t := 158) (fr := (0, 0)) (heap_alloc_new wr _)) (one_iss o x y)
                (by decide) (by unfold maxLen; omega) (by omega) (by simp; omega) (wr.heap.size + 1) (by simp) ?_; intro gg cap1 w1 hown1 hgrow hat hlt1))
        all_goals
          go_wp2
          go_roundw
          case rel => exact ⟨k + 1, by omega, by go_num, by rw [take_snoc HX.out]; exact Own.snoc hown1 (by rw [HT.out]) HO.out.2 HFK.out, HBD.out.grown hgrow HBASE.out (fun j hj => (HOWN.out.lt j hj).1)⟩
          case measure => simp [intOf]; omega
      · have HK := Lib.hid (show l.take k = l by rw [List.take_of_length_le (by rw [HL.out]; omega)])
        clear ho hB
        go_wp2
        go_ret
        exact ⟨_, rfl, by have h := HO.out; rw [HK.out] at h; exact h, HB.out⟩

theorem fewSelR {v : Value} {l : TL} {w : World} (h : Reads TermLay w v l) : Calls Tryz.prog 43 #[v] w fun e w' => e = .returned (.bool (fewL l)) ∧ w = w' := by
  obtain ⟨a, cap, rfl, _, _, hr⟩ := h
  exact fewSel_any a _ cap l w hr
theorem refCheckR {v : Value} {l : PL} {c : Int} {w : World} (h : Reads PairLay w v l) (hc : chkS l = c) : Calls Tryz.prog 51 #[v] w (Say (.int .i64 c) w) := by
  obtain ⟨a, cap, rfl, _, _, hr⟩ := h
  exact (refCheckSet_any a _ cap l w hr).mono fun e w' ⟨he, k⟩ => ⟨by rw [he, hc], k⟩
theorem refCheckSelR {v : Value} {l : TL} {c : Int} {w : World} (h : Reads TermLay w v l) (hc : chkL l = c) : Calls Tryz.prog 52 #[v] w (Say (.int .i64 c) w) := by
  obtain ⟨a, cap, rfl, _, _, hr⟩ := h
  exact (refCheckSel_any a _ cap l w hr).mono fun e w' ⟨he, k⟩ => ⟨by rw [he, hc], k⟩

end Go.Proofs.YtflllkpnkcmegaaGreatDoor

/- Parts, cuts and signs of a text: plain words. -/
namespace Go.Proofs.YtflllkpnkcmegaaGreatDoor
open Go.RowKit
set_option linter.unusedVariables false

/-- Is it a sign? -/
def isSign (b : UInt8) : Bool := b == 58 || b == 33
theorem signs_nil : signsL [] = 0 := rfl
theorem signs_cons (b : UInt8) (t : List UInt8) : signsL (b :: t) = (if isSign b = true then 1 else 0) + signsL t := by
  unfold signsL Lib.countByte isSign
  rw [List.count_cons, List.count_cons]
  by_cases h1 : b = 58
  · subst h1; simp; omega
  · by_cases h2 : b = 33
    · subst h2; simp; omega
    · simp [h1, h2]
end Go.Proofs.YtflllkpnkcmegaaGreatDoor

/- The reference's signs. -/
namespace Go.Proofs.YtflllkpnkcmegaaGreatDoor
open Go.RowKit
set_option linter.unusedVariables false

end Go.Proofs.YtflllkpnkcmegaaGreatDoor

/- The reference's ParseSet. -/
namespace Go.Proofs.YtflllkpnkcmegaaGreatDoor
open Go.RowKit
set_option linter.unusedVariables false

end Go.Proofs.YtflllkpnkcmegaaGreatDoor

/- The reference's ParseSel. -/
namespace Go.Proofs.YtflllkpnkcmegaaGreatDoor
open Go.RowKit
set_option linter.unusedVariables false

theorem prefix_cons (b : UInt8) (t : List UInt8) : Lib.hasPrefix (b :: t) [45] = (b == 45) := by
  unfold Lib.hasPrefix
  simp only [List.isPrefixOf, Bool.and_true]
  exact Bool.beq_comm
end Go.Proofs.YtflllkpnkcmegaaGreatDoor

/- What is parsed is told just so. -/
namespace Go.Proofs.YtflllkpnkcmegaaGreatDoor
open Go.RowKit
set_option linter.unusedVariables false

theorem chkS_len {l : PL} (h : chkS l = 0) : l.length ≤ 8 := by
  unfold chkS at h
  split at h
  · cases h
  · omega
theorem chkL_len {l : TL} (h : chkL l = 0) : l.length ≤ 8 := by
  unfold chkL at h
  split at h
  · cases h
  · omega
end Go.Proofs.YtflllkpnkcmegaaGreatDoor

/- What is told is parsed just so. -/
namespace Go.Proofs.YtflllkpnkcmegaaGreatDoor
open Go.RowKit
set_option linter.unusedVariables false

theorem signs_app : ∀ (x y : List UInt8), signsL (x ++ y) = signsL x + signsL y
  | [], y => by simp [signs_nil]
  | b :: t, y => by rw [List.cons_append, signs_cons, signs_cons, signs_app t y]; omega
theorem name_signs {x : ByteArray} (h : isName x = true) : signsL x.data.toList = 0 := by
  have hn := name_no h
  unfold signsL Lib.countByte
  rw [List.count_eq_zero.2 hn.1, List.count_eq_zero.2 hn.2.1]
theorem pair_told {x y : ByteArray} (hx : isName x = true) (hy : isName y = true) :
    (44 : UInt8) ∉ (pairB (x, y)).data.toList ∧ pairBad (pairB (x, y)).data.toList = false ∧ pairL (pairB (x, y)).data.toList = (x, y) := by
  have e : (pairB (x, y)).data.toList = x.data.toList ++ 58 :: y.data.toList := mid_data x y 58
  have nx := name_no hx
  have ny := name_no hy
  rw [e]
  refine ⟨by simp [nx.2.2, ny.2.2], ?_, ?_⟩
  · unfold pairBad
    rw [cut_mid _ nx.1, index_byte_one]
    simp [ny.1]
  · unfold pairL
    rw [cut_mid _ nx.1, bytes_data, bytes_data]
theorem prefix_name {x : ByteArray} (hx : isName x = true) (r : List UInt8) : Lib.hasPrefix (x.data.toList ++ r) [45] = false := by
  obtain ⟨b, t, e, hb⟩ := name_some hx
  rw [e, List.cons_append, prefix_cons]
  simpa using (ok_not hb).2.2.2
theorem term_told {t : Int × ByteArray × ByteArray} (h : chkT t = 0) :
    (44 : UInt8) ∉ (termB t).data.toList ∧ termBad (termB t).data.toList = false ∧ termL (termB t).data.toList = t ∧ 1 ≤ t.1 ∧ t.1 ≤ 4 := by
  obtain ⟨o, x, y⟩ := t
  rw [chkT_eq] at h
  by_cases h12 : o = 1 ∨ o = 2
  · rw [if_pos h12] at h
    have hn : (isName x && isName y) = true := by
      cases hc : (isName x && isName y) with
      | true => rfl
      | false => rw [hc] at h; simp at h
    rw [Bool.and_eq_true] at hn
    obtain ⟨hx, hy⟩ := hn
    have nx := name_no hx
    have ny := name_no hy
    have sx := name_signs hx
    have sy := name_signs hy
    have hne : x.data.toList ≠ [] := by obtain ⟨b, t, e, _⟩ := name_some hx; rw [e]; simp
    rcases h12 with rfl | rfl
    · have e : (termB (1, x, y)).data.toList = x.data.toList ++ 58 :: y.data.toList := mid_data x y 58
      have hp := prefix_name hx (58 :: y.data.toList)
      have hs : signsL (x.data.toList ++ 58 :: y.data.toList) = 1 := by rw [signs_app, signs_cons, sx, sy]; rfl
      rw [e]
      refine ⟨by simp [nx.2.2, ny.2.2], ?_, ?_, by show (1:Int) ≤ 1; omega, by show (1:Int) ≤ 4; omega⟩
      · unfold termBad; rw [hs, hp]; simp
      · unfold termL
        rw [if_neg (by rw [hp]; decide), if_neg (by rw [hs]; decide), cut_mid _ nx.1, if_pos rfl, bytes_data, bytes_data]
    · have e : (termB (2, x, y)).data.toList = x.data.toList ++ 33 :: y.data.toList := mid_data x y 33
      have hp := prefix_name hx (33 :: y.data.toList)
      have hs : signsL (x.data.toList ++ 33 :: y.data.toList) = 1 := by rw [signs_app, signs_cons, sx, sy]; rfl
      rw [e]
      refine ⟨by simp [nx.2.2, ny.2.2], ?_, ?_, by show (1:Int) ≤ 2; omega, by show (2:Int) ≤ 4; omega⟩
      · unfold termBad; rw [hs, hp]; simp
      · unfold termL
        rw [if_neg (by rw [hp]; decide), if_neg (by rw [hs]; decide), cut_none (c := 58) (by simp [nx.1, ny.1]), if_neg (by intro h; cases h), cut_mid _ nx.2.1, bytes_data, bytes_data]
  · rw [if_neg h12] at h
    by_cases h34 : o = 3 ∨ o = 4
    · rw [if_pos h34] at h
      have hn : (isName x && eqS y ByteArray.empty) = true := by
        cases hc : (isName x && eqS y ByteArray.empty) with
        | true => rfl
        | false => rw [hc] at h; simp at h
      rw [Bool.and_eq_true] at hn
      obtain ⟨hx, hy⟩ := hn
      have hy : y = ByteArray.empty := eqS_iff.1 hy
      subst hy
      have nx := name_no hx
      have sx := name_signs hx
      have hne : x.data.toList ≠ [] := by obtain ⟨b, t, e, _⟩ := name_some hx; rw [e]; simp
      rcases h34 with rfl | rfl
      · have e : (termB (3, x, ByteArray.empty)).data.toList = x.data.toList := rfl
        have hp := prefix_name hx []
        rw [List.append_nil] at hp
        rw [e]
        refine ⟨nx.2.2, ?_, ?_, by show (1:Int) ≤ 3; omega, by show (3:Int) ≤ 4; omega⟩
        · unfold termBad; rw [sx]; simp [hne]
        · unfold termL
          rw [if_neg (by rw [hp]; decide), if_pos sx, bytes_data]
      · have e : (termB (4, x, ByteArray.empty)).data.toList = 45 :: x.data.toList := by
          show ((⟨#[45]⟩ : ByteArray) ++ x).data.toList = _
          simp [ByteArray.data_append]
        have hp : Lib.hasPrefix (45 :: x.data.toList) [45] = true := by rw [prefix_cons]; rfl
        have hs : signsL (45 :: x.data.toList) = 0 := by rw [signs_cons, sx]; rfl
        rw [e]
        refine ⟨by simp [nx.2.2], ?_, ?_, by show (1:Int) ≤ 4; omega, by show (4:Int) ≤ 4; omega⟩
        · unfold termBad; rw [hs]; simp
        · unfold termL
          rw [if_pos hp]
          unfold Lib.trimPrefix
          rw [if_pos hp]
          show (4, bytes x.data.toList, ByteArray.empty) = _
          rw [bytes_data]
    · rw [if_neg h34] at h; cases h

theorem chk_names {s : PL} (h : chkS s = 0) : ∀ x ∈ s, isName x.1 = true ∧ isName x.2 = true := by
  have h2 : chkFrom none s = 0 := by
    unfold chkS at h
    split at h
    · cases h
    · exact h
  have key : ∀ (s : PL) (p : Option ByteArray), chkFrom p s = 0 → ∀ x ∈ s, isName x.1 = true ∧ isName x.2 = true := by
    intro s
    induction s with
    | nil => intro _ _ x hx; cases hx
    | cons y t ih =>
      intro p hc x hx
      unfold chkFrom at hc
      split at hc
      · cases hc
      · rename_i hn
        split at hc
        · cases hc
        · rcases List.mem_cons.1 hx with rfl | hx
          · have : (isName x.1 && isName x.2) = true := by simpa using hn
            rw [Bool.and_eq_true] at this; exact this
          · exact ih _ hc x hx
  exact key s none h2
theorem chk_terms {l : TL} (h : chkL l = 0) : ∀ t ∈ l, chkT t = 0 := by
  have h2 : chkLF l = 0 := by
    unfold chkL at h
    split at h
    · cases h
    · exact h
  have key : ∀ (l : TL), chkLF l = 0 → ∀ t ∈ l, chkT t = 0 := by
    intro l
    induction l with
    | nil => intro _ x hx; cases hx
    | cons y t ih =>
      intro hc x hx
      rw [chkLF_cons] at hc
      by_cases hy : chkT y ≠ 0
      · rw [if_pos hy] at hc; exact absurd hc hy
      · rw [if_neg hy] at hc
        rcases List.mem_cons.1 hx with rfl | hx
        · simpa using hy
        · exact ih hc x hx
  exact key l h2

theorem text_told {s : PL} (h : chkS s = 0) : parsedP (textS s).data.toList = (0, s) := by
  by_cases h0 : s = []
  · subst h0; rfl
  · have hn := chk_names h
    have e : textS s = joinB (s.map pairB) := by unfold textS; rw [if_neg h0]
    rw [e]
    refine told_parsed (chkS_len h) h0 h (fun x hx => pair_told (hn x hx).1 (hn x hx).2) ?_
    intro x hx h45
    have := (pair_told (hn x hx).1 (hn x hx).2).2.1
    rw [show pairB (x.1, x.2) = pairB x from rfl, h45] at this
    exact absurd this (by decide)
theorem selText_told {l : TL} (h : chkL l = 0) : parsedT (textL l).data.toList = (0, l) := by
  by_cases h0 : l = []
  · subst h0; rfl
  · have hn := chk_terms h
    have e : textL l = joinB (l.map termB) := by unfold textL; rw [if_neg h0]
    rw [e]
    refine told_parsed (chkL_len h) h0 h (fun x hx => ⟨(term_told (hn x hx)).1, (term_told (hn x hx)).2.1, (term_told (hn x hx)).2.2.1⟩) ?_
    intro x hx h45
    have h1 := (term_told (hn x hx)).2.2.1
    rw [h45] at h1
    have h2 : termL [45] = (4, bytes [], ByteArray.empty) := rfl
    rw [h2] at h1
    have h3 := hn x hx
    rw [← h1] at h3
    exact absurd h3 (by decide)

end Go.Proofs.YtflllkpnkcmegaaGreatDoor

/- The reference's SetText. -/
namespace Go.Proofs.YtflllkpnkcmegaaGreatDoor
open Go.RowKit
set_option linter.unusedVariables false

end Go.Proofs.YtflllkpnkcmegaaGreatDoor

/- What a law of labels is told: its arguments, the library's variables. -/
namespace Go.Proofs.YtflllkpnkcmegaaGreatDoor
open Go.ChangeShapes Go.WideShapes Go.ChangeAt Go.RowKit Go.Deep
set_option linter.unusedVariables false

theorem cellsP : Tryz.prog.cellsOf 87 = 2 := by kernel_rfl
theorem cellsT : Tryz.prog.cellsOf 89 = 3 := by kernel_rfl
theorem cellsI : Tryz.prog.cellsOf 3 = 1 := by kernel_rfl

set_option maxRecDepth 100000 in
/-- One pair, read. -/
theorem pair_of_trod {H : Type} {enc : TypeId × Value → H} {w : World} {base fuel : Nat} {sp : Nat → Bool} {held : Bool} {cs : List Value} {x : DataW H × List MemPlace} (h : DataW.trod enc Tryz.prog w base sp held fuel 87 cs = some x) :
    ∃ a : ByteArray × ByteArray, cs = PairLay.cs a ∧ PairLay.fine a := by
  obtain ⟨ys, m, -, -, hlen, hyl, hf⟩ := DataW.trod_struct Tryz.underlying87 h
  rw [cellsP] at hlen
  match cs, hlen with
  | [c0, c1], _ =>
    have h0 : DataW.trod enc Tryz.prog w base sp held m 9 (([c0, c1].drop 0).take (Tryz.prog.cellsOf 9)) = ys[0]? := hf 0 _ rfl
    have h1 : DataW.trod enc Tryz.prog w base sp held m 9 (([c0, c1].drop 1).take (Tryz.prog.cellsOf 9)) = ys[1]? := hf 1 _ rfl
    rw [cellsS] at h0 h1
    obtain ⟨y0, e0⟩ : ∃ y, ys[0]? = some y := ⟨_, List.getElem?_eq_getElem (by rw [hyl]; decide)⟩
    obtain ⟨y1, e1⟩ : ∃ y, ys[1]? = some y := ⟨_, List.getElem?_eq_getElem (by rw [hyl]; decide)⟩
    rw [e0] at h0
    rw [e1] at h1
    obtain ⟨s, q0, -, hs⟩ := DataW.trod_string Tryz.underlying9 h0
    obtain ⟨t, q1, -, ht⟩ := DataW.trod_string Tryz.underlying9 h1
    simp only [List.drop_zero, List.take_succ_cons, List.take_zero, List.cons.injEq, and_true, List.drop_succ_cons] at q0 q1
    subst q0; subst q1
    exact ⟨(s, t), rfl, hs, ht⟩

set_option maxRecDepth 100000 in
/-- One term, read. -/
theorem term_of_trod {H : Type} {enc : TypeId × Value → H} {w : World} {base fuel : Nat} {sp : Nat → Bool} {held : Bool} {cs : List Value} {x : DataW H × List MemPlace} (h : DataW.trod enc Tryz.prog w base sp held fuel 89 cs = some x) :
    ∃ a : Int × ByteArray × ByteArray, cs = TermLay.cs a ∧ TermLay.fine a := by
  obtain ⟨ys, m, -, -, hlen, hyl, hf⟩ := DataW.trod_struct Tryz.underlying89 h
  rw [cellsT] at hlen
  match cs, hlen with
  | [c0, c1, c2], _ =>
    have h0 : DataW.trod enc Tryz.prog w base sp held m 3 (([c0, c1, c2].drop 0).take (Tryz.prog.cellsOf 3)) = ys[0]? := hf 0 _ rfl
    have h1 : DataW.trod enc Tryz.prog w base sp held m 9 (([c0, c1, c2].drop 1).take (Tryz.prog.cellsOf 9)) = ys[1]? := hf 1 _ rfl
    have h2 : DataW.trod enc Tryz.prog w base sp held m 9 (([c0, c1, c2].drop 2).take (Tryz.prog.cellsOf 9)) = ys[2]? := hf 2 _ rfl
    rw [cellsS] at h1 h2
    rw [cellsI] at h0
    obtain ⟨y0, e0⟩ : ∃ y, ys[0]? = some y := ⟨_, List.getElem?_eq_getElem (by rw [hyl]; decide)⟩
    obtain ⟨y1, e1⟩ : ∃ y, ys[1]? = some y := ⟨_, List.getElem?_eq_getElem (by rw [hyl]; decide)⟩
    obtain ⟨y2, e2⟩ : ∃ y, ys[2]? = some y := ⟨_, List.getElem?_eq_getElem (by rw [hyl]; decide)⟩
    rw [e0] at h0
    rw [e1] at h1
    rw [e2] at h2
    obtain ⟨n, q0, -, hn⟩ := DataW.trod_int Tryz.underlying3 h0
    obtain ⟨s, q1, -, hs⟩ := DataW.trod_string Tryz.underlying9 h1
    obtain ⟨t, q2, -, ht⟩ := DataW.trod_string Tryz.underlying9 h2
    simp only [List.drop_zero, List.take_succ_cons, List.take_zero, List.cons.injEq, and_true, List.drop_succ_cons] at q0 q1 q2
    subst q0; subst q1; subst q2
    exact ⟨(n, s, t), rfl, bounds_i64 hn, hs, ht⟩

theorem set_of_trod {H : Type} {enc : TypeId × Value → H} {w : World} {base fuel : Nat} {sp : Nat → Bool} {held : Bool} {v : Value} {x : DataW H × List MemPlace} (h : DataW.trod enc Tryz.prog w base sp held fuel 25 [v] = some x) : ∃ l, Reads PairLay w v l :=
  reads_of_trod PairLay Tryz.underlying25 cellsP (fun _ _ _ h => pair_of_trod h) h
theorem sel_of_trod {H : Type} {enc : TypeId × Value → H} {w : World} {base fuel : Nat} {sp : Nat → Bool} {held : Bool} {v : Value} {x : DataW H × List MemPlace} (h : DataW.trod enc Tryz.prog w base sp held fuel 27 [v] = some x) : ∃ l, Reads TermLay w v l :=
  reads_of_trod TermLay Tryz.underlying27 cellsT (fun _ _ _ h => term_of_trod h) h

end Go.Proofs.YtflllkpnkcmegaaGreatDoor
