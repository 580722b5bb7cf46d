/- A selector's terms: whether they may be; what a key has; what holds. -/
import Derived.Test.YtmmjcomoabfmnaaDoorLabRead
namespace Go.Proofs.YtmmjcomoabfmnaaDoor
open Go.RowKit
set_option linter.unusedVariables false

abbrev TV (o : Int) (x y : ByteArray) : Value := .agg #[.int .i64 o, .string x, .string y]

def chkT (t : Int × ByteArray × ByteArray) : Int :=
  if t.1 = 1 ∨ t.1 = 2 then (if (isName t.2.1 && isName t.2.2) = true then 0 else 3)
  else if t.1 = 3 ∨ t.1 = 4 then (if (isName t.2.1 && eqS t.2.2 ByteArray.empty) = true then 0 else 3)
  else 1
def chkLF : TL → Int
  | [] => 0
  | t :: r => if chkT t ≠ 0 then chkT t else chkLF r
def chkL (l : TL) : Int := if 8 < l.length then 4 else chkLF l

theorem err_ok (w : World) : Calls Tryd.prog 51 #[.bool true] w fun e w' => e = .returned (.int .i64 0) ∧ w = w' := by
  go_enter Tryd.func51, Tryd.ntmps51
  go_wp2
  go_ret
  exact ⟨rfl, rfl⟩
theorem err_bad (w : World) : Calls Tryd.prog 51 #[.bool false] w fun e w' => e = .returned (.int .i64 3) ∧ w = w' := by
  go_enter Tryd.func51, Tryd.ntmps51
  go_wp2
  go_ret
  exact ⟨rfl, rfl⟩

theorem chkT_eq {o : Int} {x y : ByteArray} : chkT (o, x, y) = if o = 1 ∨ o = 2 then (if (isName x && isName y) = true then 0 else 3)
  else if o = 3 ∨ o = 4 then (if (isName x && eqS y ByteArray.empty) = true then 0 else 3) else 1 := rfl

set_option maxHeartbeats 800000 in
theorem term_names (o : Int) (x y : ByteArray) (w : World) (ho : o = 1 ∨ o = 2) (hx : x.size ≤ maxLen) (hy : y.size ≤ maxLen) :
    Calls Tryd.prog 33 #[TV o x y] w fun e w' => e = .returned (.int .i64 (chkT (o, x, y))) ∧ Kept w w' := by
  by_cases n : (isName x && isName y) = true
  · have HV := Lib.hid (show chkT (o, x, y) = 0 by rw [chkT_eq, if_pos ho, if_pos n])
    have n1 : isName x = true := by rw [Bool.and_eq_true] at n; exact n.1
    have n2 : isName y = true := by rw [Bool.and_eq_true] at n; exact n.2
    clear n
    rcases ho with rfl | rfl <;>
      (go_enter Tryd.func33, Tryd.ntmps33
       go_wp2_with (first | (go_at_call 32; refine (name_any _ _ (by assumption)).mono ?_; rintro e w' ⟨rfl, rfl⟩) | (go_at_call 51; refine (err_ok _).mono ?_; rintro e w' ⟨rfl, rfl⟩))
       go_ret
       exact ⟨ret_i64 HV.out.symm, kept_alloc _ _⟩)
  · have HV := Lib.hid (show chkT (o, x, y) = 3 by rw [chkT_eq, if_pos ho, if_neg n])
    by_cases n1 : isName x = true
    · have n2 : isName y = false := by rw [n1, Bool.true_and] at n; simpa using n
      clear n
      rcases ho with rfl | rfl <;>
        (go_enter Tryd.func33, Tryd.ntmps33
         go_wp2_with (first | (go_at_call 32; refine (name_any _ _ (by assumption)).mono ?_; rintro e w' ⟨rfl, rfl⟩) | (go_at_call 51; refine (err_bad _).mono ?_; rintro e w' ⟨rfl, rfl⟩))
         go_ret
         exact ⟨ret_i64 HV.out.symm, kept_alloc _ _⟩)
    · have n1 : isName x = false := by simpa using n1
      clear n
      rcases ho with rfl | rfl <;>
        (go_enter Tryd.func33, Tryd.ntmps33
         go_wp2_with (first | (go_at_call 32; refine (name_any _ _ (by assumption)).mono ?_; rintro e w' ⟨rfl, rfl⟩) | (go_at_call 51; refine (err_bad _).mono ?_; rintro e w' ⟨rfl, rfl⟩))
         go_ret
         exact ⟨ret_i64 HV.out.symm, kept_alloc _ _⟩)

set_option maxHeartbeats 800000 in
theorem term_key (o : Int) (x y : ByteArray) (w : World) (ho : o = 3 ∨ o = 4) (hx : x.size ≤ maxLen) (hy : y.size ≤ maxLen) :
    Calls Tryd.prog 33 #[TV o x y] w fun e w' => e = .returned (.int .i64 (chkT (o, x, y))) ∧ Kept w w' := by
  have ho' : ¬ (o = 1 ∨ o = 2) := by omega
  by_cases n : (isName x && eqS y ByteArray.empty) = true
  · have HV := Lib.hid (show chkT (o, x, y) = 0 by rw [chkT_eq, if_neg ho', if_pos ho, if_pos n])
    have n1 : isName x = true := by rw [Bool.and_eq_true] at n; exact n.1
    have n2 : (y.toList == ([] : List UInt8)) = true := by rw [Bool.and_eq_true] at n; have := n.2; unfold eqS at this; simpa using this
    clear n ho'
    rcases ho with rfl | rfl <;>
      (go_enter Tryd.func33, Tryd.ntmps33
       go_wp2_with (first | (go_at_call 32; refine (name_any _ _ (by assumption)).mono ?_; rintro e w' ⟨rfl, rfl⟩) | (go_at_call 51; refine (err_ok _).mono ?_; rintro e w' ⟨rfl, rfl⟩))
       go_ret
       exact ⟨ret_i64 HV.out.symm, kept_alloc _ _⟩)
  · have HV := Lib.hid (show chkT (o, x, y) = 3 by rw [chkT_eq, if_neg ho', if_pos ho, if_neg n])
    clear ho'
    by_cases n1 : isName x = true
    · have n2 : (y.toList == ([] : List UInt8)) = false := by rw [n1, Bool.true_and] at n; unfold eqS at n; simpa using n
      clear n
      rcases ho with rfl | rfl <;>
        (go_enter Tryd.func33, Tryd.ntmps33
         go_wp2_with (first | (go_at_call 32; refine (name_any _ _ (by assumption)).mono ?_; rintro e w' ⟨rfl, rfl⟩) | (go_at_call 51; refine (err_bad _).mono ?_; rintro e w' ⟨rfl, rfl⟩))
         go_ret
         exact ⟨ret_i64 HV.out.symm, kept_alloc _ _⟩)
    · have n1 : isName x = false := by simpa using n1
      clear n
      rcases ho with rfl | rfl <;>
        (go_enter Tryd.func33, Tryd.ntmps33
         go_wp2_with (first | (go_at_call 32; refine (name_any _ _ (by assumption)).mono ?_; rintro e w' ⟨rfl, rfl⟩) | (go_at_call 51; refine (err_bad _).mono ?_; rintro e w' ⟨rfl, rfl⟩))
         go_ret
         exact ⟨ret_i64 HV.out.symm, kept_alloc _ _⟩)

theorem term_other (o : Int) (x y : ByteArray) (w : World) (ho : ¬ (o = 1 ∨ o = 2)) (ho' : ¬ (o = 3 ∨ o = 4)) :
    Calls Tryd.prog 33 #[TV o x y] w fun e w' => e = .returned (.int .i64 (chkT (o, x, y))) ∧ Kept w w' := by
  have HV := Lib.hid (show chkT (o, x, y) = 1 by rw [chkT_eq, if_neg ho, if_neg ho'])
  have e1 : (o == 1) = false := by (have : o ≠ 1 := by omega); simpa using this
  have e2 : (o == 2) = false := by (have : o ≠ 2 := by omega); simpa using this
  have e3 : (o == 3) = false := by (have : o ≠ 3 := by omega); simpa using this
  have e4 : (o == 4) = false := by (have : o ≠ 4 := by omega); simpa using this
  clear ho ho'
  go_enter Tryd.func33, Tryd.ntmps33
  go_wp2
  go_ret
  exact ⟨ret_i64 HV.out.symm, kept_alloc _ _⟩

theorem checkTerm_any (o : Int) (x y : ByteArray) (w : World) (hx : x.size ≤ maxLen) (hy : y.size ≤ maxLen) :
    Calls Tryd.prog 33 #[TV o x y] w fun e w' => e = .returned (.int .i64 (chkT (o, x, y))) ∧ Kept w w' := by
  by_cases h1 : o = 1 ∨ o = 2
  · exact term_names o x y w h1 hx hy
  · by_cases h2 : o = 3 ∨ o = 4
    · exact term_key o x y w h2 hx hy
    · exact term_other o x y w h1 h2

theorem chkLF_cons (t : Int × ByteArray × ByteArray) (r : TL) : chkLF (t :: r) = if chkT t ≠ 0 then chkT t else chkLF r := rfl

set_option maxHeartbeats 800000 in
theorem checkSel_any (a : Option Addr) (len cap : Nat) (l : TL) (w : World) (hr : RowAt TermLay w a len l) :
    Calls Tryd.prog 16 #[.slice a len cap] w fun e w' => e = .returned (.int .i64 (chkL l)) ∧ Kept w w' := by
  have hl := hr.1
  have hm := hr.2.1
  unfold maxLen at hm
  by_cases h8 : len ≤ 8
  · have HV := Lib.hid (show chkL l = chkLF l by unfold chkL; rw [if_neg (by omega)])
    rcases hr.form with h0 | ⟨b, off, rfl⟩
    · subst h0
      have HE := Lib.hid (show chkL l = 0 by rw [HV.out]; rw [List.eq_nil_of_length_eq_zero hl]; rfl)
      clear hr hl
      go_enter Tryd.func16, Tryd.ntmps16
      go_wp2
      refine wp_loop_rounds 1 ?_
      rw [rounds_succ]
      go_wp2
      go_ret
      exact ⟨ret_i64 HE.out.symm, Kept.refl _⟩
    · have HR := Lib.hid hr
      have HL := Lib.hid hl
      clear hr hl
      go_enter Tryd.func16, Tryd.ntmps16
      go_wp2
      go_loopw [11] (fun i wr => ∃ k : Nat, k ≤ len ∧ i = .int .i64 k ∧ chkLF (l.drop k) = chkLF l ∧ Kept w wr) (fun i _ => len - (intOf i).toNat)
      case atStart => exact ⟨0, Nat.zero_le _, rfl, rfl, Kept.refl _⟩
      case round =>
        obtain ⟨k, hk, rfl, hrest, hK⟩ := hrel
        by_cases hlt : k < len
        · obtain ⟨o, x, y, hx, hd, hb, ho, hz, hz2, c1, c2, c3⟩ := (HR.out.kept hK).term hlt
          have HK := Lib.hid hK
          have HT := Lib.hid (hrest.symm.trans ((congrArg chkLF hd).trans (chkLF_cons _ _)))
          have HS := Lib.hid (HV.out.trans HT.out)
          clear hK hrest hx hd
          by_cases n : chkT (o, x, y) = 0
          · have N := Lib.hid n
            have n' : (chkT (o, x, y) != 0) = false := by simpa using n
            clear n
            go_wp2_with (go_at_call 33; refine (checkTerm_any o x y _ hz hz2).mono ?_; rintro e w1 ⟨rfl, k1⟩; have K1 := Lib.hid k1; clear k1)
            go_roundw
            case rel => exact ⟨k + 1, by omega, by go_num, (HT.out.trans (if_neg (by rw [N.out]; decide))).symm, HK.out.trans ((kept_alloc _ _).trans K1.out)⟩
            case measure => simp [intOf]; omega
          · have N := Lib.hid n
            have n' : (chkT (o, x, y) != 0) = true := by simpa using n
            clear n
            go_wp2_with (go_at_call 33; refine (checkTerm_any o x y _ hz hz2).mono ?_; rintro e w1 ⟨rfl, k1⟩; have K1 := Lib.hid k1; clear k1)
            go_ret
            exact ⟨ret_i64 (HS.out.trans (if_pos N.out)).symm, HK.out.trans ((kept_alloc _ _).trans K1.out)⟩
        · have HK := Lib.hid hK
          have HS := Lib.hid ((HV.out.trans hrest.symm).trans (congrArg chkLF (drop_end (by rw [HL.out]; exact hlt))))
          clear hK hrest
          go_wp2
          go_ret
          exact ⟨ret_i64 (HS.out.trans rfl).symm, HK.out⟩
  · have HV := Lib.hid (show chkL l = 4 by unfold chkL; rw [if_pos (by omega)])
    have h9 : 8 < len := by omega
    clear h8 hr hl
    go_enter Tryd.func16, Tryd.ntmps16
    go_wp2
    go_ret
    exact ⟨ret_i64 HV.out.symm, Kept.refl _⟩

/-- What a key has. -/
def getS : PL → ByteArray → Option ByteArray
  | [], _ => none
  | x :: t, n => if eqS x.1 n = true then some x.2 else getS t n
def getT (s : PL) (n : ByteArray) : ByteArray := (getS s n).getD ByteArray.empty
def hasS (s : PL) (n : ByteArray) : Bool := (getS s n).isSome
theorem getS_cons (x y : ByteArray) (t : PL) (n : ByteArray) : getS ((x, y) :: t) n = if eqS x n = true then some y else getS t n := rfl
theorem ret_get {s : PL} {n : ByteArray} {o : Option ByteArray} (h : getS s n = o) : Ending.returned (.tuple #[.string (o.getD ByteArray.empty), .bool o.isSome]) = .returned (.tuple #[.string (getT s n), .bool (hasS s n)]) := by
  unfold getT hasS; rw [h]
theorem getS_size {s : PL} {n v : ByteArray} (hf : ∀ x ∈ s, PairLay.fine x) (h : getS s n = some v) : v.size ≤ maxLen := by
  induction s with
  | nil => cases h
  | cons x t ih =>
    rw [getS] at h
    split at h
    · injection h with h; subst h; exact (hf x (by simp)).2
    · exact ih (fun y hy => hf y (by simp [hy])) h
theorem getT_size {s : PL} {n : ByteArray} (hf : ∀ x ∈ s, PairLay.fine x) : (getT s n).size ≤ maxLen := by
  unfold getT
  cases h : getS s n with
  | none => exact Nat.zero_le _
  | some v => exact getS_size hf h

set_option maxHeartbeats 800000 in
theorem get_any (a : Option Addr) (len cap : Nat) (l : PL) (n : ByteArray) (w : World) (hr : RowAt PairLay w a len l) :
    Calls Tryd.prog 17 #[.slice a len cap, .string n] w fun e w' => e = .returned (.tuple #[.string (getT l n), .bool (hasS l n)]) ∧ Kept w w' := by
  have hl := hr.1
  have hm := hr.2.1
  unfold maxLen at hm
  rcases hr.form with h0 | ⟨b, off, rfl⟩
  · subst h0
    have HE := Lib.hid (show getS l n = none by rw [List.eq_nil_of_length_eq_zero hl]; rfl)
    clear hr hl
    go_enter Tryd.func17, Tryd.ntmps17
    go_wp2
    refine wp_loop_rounds 1 ?_
    rw [rounds_succ]
    go_wp2
    go_ret2
    exact ⟨ret_get HE.out, Kept.refl _⟩
  · have HR := Lib.hid hr
    have HL := Lib.hid hl
    clear hr hl
    go_enter Tryd.func17, Tryd.ntmps17
    go_wp2
    go_loopw [10] (fun i wr => ∃ k : Nat, k ≤ len ∧ i = .int .i64 k ∧ getS (l.drop k) n = getS l n ∧ Kept w wr) (fun i _ => len - (intOf i).toNat)
    case atStart => exact ⟨0, Nat.zero_le _, rfl, rfl, Kept.refl _⟩
    case round =>
      obtain ⟨k, hk, rfl, hrest, hK⟩ := hrel
      by_cases hlt : k < len
      · obtain ⟨x, y, hx, hd, hb, hz, hz2, c1, c2⟩ := (HR.out.kept hK).pair hlt
        have HK := Lib.hid hK
        have HT := Lib.hid (hrest.symm.trans ((congrArg (fun z => getS z n) hd).trans (getS_cons _ _ _ _)))
        clear hK hrest hx hd
        by_cases e : eqS x n = true
        · have E := Lib.hid e
          have e' : (x.toList == n.toList) = true := e
          clear e
          go_wp2
          go_ret2
          exact ⟨ret_get (HT.out.trans (if_pos E.out)), HK.out.trans (kept_alloc _ _)⟩
        · have E := Lib.hid e
          have e' : (x.toList == n.toList) = false := by unfold eqS at e; simpa using e
          clear e
          go_wp2
          go_roundw
          case rel => exact ⟨k + 1, by omega, by go_num, (HT.out.trans (if_neg E.out)).symm, HK.out.trans (kept_alloc _ _)⟩
          case measure => simp [intOf]; omega
      · have HK := Lib.hid hK
        have HS := Lib.hid (hrest.symm.trans (congrArg (fun z => getS z n) (drop_end (by rw [HL.out]; exact hlt))))
        clear hK hrest
        go_wp2
        go_ret2
        exact ⟨ret_get (HS.out.trans rfl), HK.out⟩

/-- What holds. -/
def holdsT (s : PL) (t : Int × ByteArray × ByteArray) : Bool :=
  if t.1 = 1 then hasS s t.2.1 && eqS (getT s t.2.1) t.2.2
  else if t.1 = 2 then !hasS s t.2.1 || !eqS (getT s t.2.1) t.2.2
  else if t.1 = 3 then hasS s t.2.1
  else if t.1 = 4 then !hasS s t.2.1 else false
theorem holdsT_eq {s : PL} {o : Int} {x y : ByteArray} : holdsT s (o, x, y) = if o = 1 then hasS s x && eqS (getT s x) y else if o = 2 then !hasS s x || !eqS (getT s x) y else if o = 3 then hasS s x else if o = 4 then !hasS s x else false := rfl

set_option maxHeartbeats 1600000 in
theorem holds_any (o : Int) (x y : ByteArray) (a : Option Addr) (len cap : Nat) (s : PL) (w : World) (hr : RowAt PairLay w a len s) :
    Calls Tryd.prog 34 #[TV o x y, .slice a len cap] w fun e w' => e = .returned (.bool (holdsT s (o, x, y))) ∧ Kept w w' := by
  have HG := Lib.hid (fun (w' : World) (k : Kept w w') => get_any a len cap s x w' (hr.kept k))
  obtain ⟨v, hv⟩ : ∃ v, getT s x = v := ⟨_, rfl⟩
  obtain ⟨h, hh⟩ : ∃ h, hasS s x = h := ⟨_, rfl⟩
  obtain ⟨q, hq⟩ : ∃ q, eqS v y = q := ⟨_, rfl⟩
  have hq' : (v.toList == y.toList) = q := hq
  rw [hv, hh] at HG
  clear hr
  by_cases h1 : o = 1
  · subst h1
    have HV := Lib.hid (show holdsT s (1, x, y) = (h && q) by rw [holdsT_eq, if_pos rfl, hv, hh, hq])
    clear hv hh hq
    cases h <;> cases q <;>
    (go_enter Tryd.func34, Tryd.ntmps34
     go_wp2_with (go_at_call 17; refine (HG.out _ (kept_alloc _ _)).mono ?_; rintro e w1 ⟨rfl, k1⟩; have K1 := Lib.hid k1; have c3 := cell_later k1 (show (w.alloc (.cells #[.int .i64 1, .string x, .string y] 60)).cell? ⟨w.heap.size, 2, none⟩ = some (.string y) by go_simp); have c0 := cell_later k1 (show (w.alloc (.cells #[.int .i64 1, .string x, .string y] 60)).cell? ⟨w.heap.size, 0, none⟩ = some (.int .i64 1) by go_simp); clear k1)
     go_ret
     exact ⟨ret_bool HV.out.symm, (kept_alloc _ _).trans K1.out⟩)
  · by_cases h2 : o = 2
    · subst h2
      have HV := Lib.hid (show holdsT s (2, x, y) = (!h || !q) by rw [holdsT_eq, if_neg (by decide), if_pos rfl, hv, hh, hq])
      clear hv hh hq h1
      cases h <;> cases q <;>
      (go_enter Tryd.func34, Tryd.ntmps34
       go_wp2_with (go_at_call 17; refine (HG.out _ (kept_alloc _ _)).mono ?_; rintro e w1 ⟨rfl, k1⟩; have K1 := Lib.hid k1; have c3 := cell_later k1 (show (w.alloc (.cells #[.int .i64 2, .string x, .string y] 60)).cell? ⟨w.heap.size, 2, none⟩ = some (.string y) by go_simp); have c0 := cell_later k1 (show (w.alloc (.cells #[.int .i64 2, .string x, .string y] 60)).cell? ⟨w.heap.size, 0, none⟩ = some (.int .i64 2) by go_simp); clear k1)
       go_ret
       exact ⟨ret_bool HV.out.symm, (kept_alloc _ _).trans K1.out⟩)
    · by_cases h3 : o = 3
      · subst h3
        have HV := Lib.hid (show holdsT s (3, x, y) = h by rw [holdsT_eq, if_neg (by decide), if_neg (by decide), if_pos rfl, hh])
        clear hv hh hq h1 h2
        go_enter Tryd.func34, Tryd.ntmps34
        go_wp2_with (go_at_call 17; refine (HG.out _ (kept_alloc _ _)).mono ?_; rintro e w1 ⟨rfl, k1⟩; have K1 := Lib.hid k1; have c0 := cell_later k1 (show (w.alloc (.cells #[.int .i64 3, .string x, .string y] 60)).cell? ⟨w.heap.size, 0, none⟩ = some (.int .i64 3) by go_simp); clear k1)
        go_ret
        exact ⟨ret_bool HV.out.symm, (kept_alloc _ _).trans K1.out⟩
      · by_cases h4 : o = 4
        · subst h4
          have HV := Lib.hid (show holdsT s (4, x, y) = !h by rw [holdsT_eq, if_neg (by decide), if_neg (by decide), if_neg (by decide), if_pos rfl, hh])
          clear hv hh hq h1 h2 h3
          go_enter Tryd.func34, Tryd.ntmps34
          go_wp2_with (go_at_call 17; refine (HG.out _ (kept_alloc _ _)).mono ?_; rintro e w1 ⟨rfl, k1⟩; have K1 := Lib.hid k1; have c0 := cell_later k1 (show (w.alloc (.cells #[.int .i64 4, .string x, .string y] 60)).cell? ⟨w.heap.size, 0, none⟩ = some (.int .i64 4) by go_simp); clear k1)
          go_ret
          exact ⟨ret_bool HV.out.symm, (kept_alloc _ _).trans K1.out⟩
        · have HV := Lib.hid (show holdsT s (o, x, y) = false by rw [holdsT_eq, if_neg h1, if_neg h2, if_neg h3, if_neg h4])
          have e1 : (o == 1) = false := by simpa using h1
          have e2 : (o == 2) = false := by simpa using h2
          have e3 : (o == 3) = false := by simpa using h3
          have e4 : (o == 4) = false := by simpa using h4
          clear hv hh hq h1 h2 h3 h4
          go_enter Tryd.func34, Tryd.ntmps34
          go_wp2_with (go_at_call 17; refine (HG.out _ (kept_alloc _ _)).mono ?_; rintro e w1 ⟨rfl, k1⟩; have K1 := Lib.hid k1; have c0 := cell_later k1 (show (w.alloc (.cells #[.int .i64 o, .string x, .string y] 60)).cell? ⟨w.heap.size, 0, none⟩ = some (.int .i64 o) by go_simp); clear k1)
          go_ret
          exact ⟨ret_bool HV.out.symm, (kept_alloc _ _).trans K1.out⟩

/-- All hold. -/
def matchT (l : TL) (s : PL) : Bool := l.all (holdsT s)
theorem match_cons (t : Int × ByteArray × ByteArray) (r : TL) (s : PL) : matchT (t :: r) s = (holdsT s t && matchT r s) := rfl

set_option maxHeartbeats 800000 in
theorem match_any (a a' : Option Addr) (len cap len' cap' : Nat) (l : TL) (s : PL) (w : World) (hr : RowAt TermLay w a len l) (hr' : RowAt PairLay w a' len' s) :
    Calls Tryd.prog 19 #[.slice a len cap, .slice a' len' cap'] w fun e w' => e = .returned (.bool (matchT l s)) ∧ Kept w w' := by
  have hl := hr.1
  have hm := hr.2.1
  unfold maxLen at hm
  rcases hr.form with h0 | ⟨b, off, rfl⟩
  · subst h0
    have HE := Lib.hid (show matchT l s = true by rw [List.eq_nil_of_length_eq_zero hl]; rfl)
    clear hr hl hr'
    go_enter Tryd.func19, Tryd.ntmps19
    go_wp2
    refine wp_loop_rounds 1 ?_
    rw [rounds_succ]
    go_wp2
    go_ret
    exact ⟨ret_bool HE.out.symm, Kept.refl _⟩
  · have HR := Lib.hid hr
    have HR' := Lib.hid hr'
    have HL := Lib.hid hl
    clear hr hl hr'
    go_enter Tryd.func19, Tryd.ntmps19
    go_wp2
    go_loopw [9] (fun i wr => ∃ k : Nat, k ≤ len ∧ i = .int .i64 k ∧ matchT (l.drop k) s = matchT l s ∧ Kept w wr) (fun i _ => len - (intOf i).toNat)
    case atStart => exact ⟨0, Nat.zero_le _, rfl, rfl, Kept.refl _⟩
    case round =>
      obtain ⟨k, hk, rfl, hrest, hK⟩ := hrel
      by_cases hlt : k < len
      · obtain ⟨o, x, y, hx, hd, hb, ho, hz, hz2, c1, c2, c3⟩ := (HR.out.kept hK).term hlt
        have HK := Lib.hid hK
        have HT := Lib.hid (hrest.symm.trans ((congrArg (fun z => matchT z s) hd).trans (match_cons _ _ _)))
        clear hK hrest hx hd
        by_cases n : holdsT s (o, x, y) = true
        · have N := Lib.hid n
          go_wp2_with (go_at_call 34; refine (holds_any o x y a' len' cap' s _ ((HR'.out.kept HK.out).kept (kept_alloc _ _))).mono ?_; rintro e w1 ⟨rfl, k1⟩; have K1 := Lib.hid k1; clear k1)
          go_roundw
          case rel => exact ⟨k + 1, by omega, by go_num, (HT.out.trans (by rw [N.out]; exact Bool.true_and _)).symm, HK.out.trans ((kept_alloc _ _).trans K1.out)⟩
          case measure => simp [intOf]; omega
        · have n : holdsT s (o, x, y) = false := by simpa using n
          have N := Lib.hid n
          go_wp2_with (go_at_call 34; refine (holds_any o x y a' len' cap' s _ ((HR'.out.kept HK.out).kept (kept_alloc _ _))).mono ?_; rintro e w1 ⟨rfl, k1⟩; have K1 := Lib.hid k1; clear k1)
          go_ret
          exact ⟨ret_bool (HT.out.trans (by rw [N.out]; exact Bool.false_and _)).symm, HK.out.trans ((kept_alloc _ _).trans K1.out)⟩
      · have HK := Lib.hid hK
        have HS := Lib.hid (hrest.symm.trans (congrArg (fun z => matchT z s) (drop_end (by rw [HL.out]; exact hlt))))
        clear hK hrest
        go_wp2
        go_ret
        exact ⟨ret_bool (HS.out.trans rfl).symm, HK.out⟩

end Go.Proofs.YtmmjcomoabfmnaaDoor
