/- Vectors read: a name's amount, whether short, whether alike, whether the one fits the other. -/
import Derived.Test.YtnnneimpdiadhaaDoorResVec
import Derived.Deep.RegionHeld3
import Derived.Laws.StructEq
namespace Go.Proofs.YtnnneimpdiadhaaDoor.Vec
open Go.RowKit
set_option linter.unusedVariables false

def getV : V → ByteArray → Int
  | [], _ => 0
  | x :: t, n => if eqS x.1 n = true then x.2 else getV t n
theorem get_here {l : V} {k : Nat} {n : ByteArray} (h : k < l.length) (e : eqS (nm l k) n = true) : getV (l.drop k) n = qn l k := by rw [drop_cons h, getV, if_pos e]
theorem get_next {l : V} {k : Nat} {n : ByteArray} (h : k < l.length) (e : eqS (nm l k) n = false) : getV (l.drop k) n = getV (l.drop (k + 1)) n := by rw [drop_cons h, getV, if_neg (by rw [e]; decide)]
theorem get_end {l : V} {k : Nat} {n : ByteArray} (h : ¬ k < l.length) : getV (l.drop k) n = 0 := by rw [List.drop_of_length_le (by omega), getV]

set_option maxHeartbeats 800000 in
theorem get_any (a : Option Addr) (len cap : Nat) (l : V) (n : ByteArray) (w : World) (hr : VecAt w a len l) :
    Calls Tryd.prog 19 #[.slice a len cap, .string n] w fun e w' => e = .returned (.int .i64 (getV l n)) ∧ Kept w w' := by
  have hl := hr.1
  have hm := hr.2.1
  unfold maxLen at hm
  rcases hr.form with h0 | ⟨b, off, rfl⟩
  · subst h0
    have HE := Lib.hid (show getV l n = 0 by rw [List.eq_nil_of_length_eq_zero hl]; rfl)
    clear hr hl
    go_enter Tryd.func19, Tryd.ntmps19
    go_wp2
    refine wp_loop_rounds 1 ?_
    rw [rounds_succ]
    go_wp2
    go_ret
    exact ⟨ret_i64 HE.out.symm, Kept.refl _⟩
  · have HR := Lib.hid hr
    have HL := Lib.hid hl
    clear hr hl
    go_enter Tryd.func19, Tryd.ntmps19
    go_wp2
    go_loopw [9] (fun i wr => ∃ k : Nat, k ≤ len ∧ i = .int .i64 k ∧ getV (l.drop k) n = getV l n ∧ Kept w wr) (fun i _ => len - (intOf i).toNat)
    case atStart => exact ⟨0, Nat.zero_le _, rfl, rfl, Kept.refl _⟩
    case round =>
      obtain ⟨k, hk, rfl, hrest, hK⟩ := hrel
      have HK := Lib.hid hK
      have HS := Lib.hid hrest
      by_cases hlt : k < len
      · obtain ⟨hb, c1, c2⟩ := (HR.out.kept hK).cells hlt
        clear hK hrest
        have HI := Lib.hid (show k < l.length by rw [HL.out]; exact hlt)
        by_cases e : eqS (nm l k) n = true
        · have E := Lib.hid e
          have e' : ((nm l k).toList == n.toList) = true := e
          clear e
          go_wp2
          go_ret
          exact ⟨ret_i64 (HS.out.symm.trans (get_here HI.out E.out)).symm, HK.out.trans (kept_alloc _ _)⟩
        · have e : eqS (nm l k) n = false := by simpa using e
          have E := Lib.hid e
          have e' : ((nm l k).toList == n.toList) = false := e
          clear e
          go_wp2
          go_roundw
          case rel => exact ⟨k + 1, by omega, by go_num, (get_next HI.out E.out).symm.trans HS.out, HK.out.trans (kept_alloc _ _)⟩
          case measure => simp [intOf]; omega
      · have HI := Lib.hid (show ¬ k < l.length by rw [HL.out]; exact hlt)
        clear hK hrest
        go_wp2
        go_ret
        exact ⟨ret_i64 (HS.out.symm.trans (get_end HI.out)).symm, HK.out⟩

/-- Is it short? -/
def fewFrom : V → Bool
  | [] => true
  | x :: t => decide (x.1.size ≤ 50) && fewFrom t
def fewV (l : V) : Bool := decide (l.length ≤ 20) && fewFrom l

set_option maxHeartbeats 800000 in
theorem few_any (a : Option Addr) (len cap : Nat) (l : V) (w : World) (hr : VecAt w a len l) :
    Calls Tryd.prog 7 #[.slice a len cap] w fun e w' => e = .returned (.bool (fewV l)) ∧ w = w' := by
  have hl := hr.1
  have hm := hr.2.1
  have hf := hr.2.2.1
  unfold maxLen at hm
  by_cases h20 : len ≤ 20
  · have HV := Lib.hid (show fewV l = fewFrom l by unfold fewV; rw [decide_eq_true (by omega)]; rfl)
    rcases hr.form with h0 | ⟨b, off, rfl⟩
    · subst h0
      have HE := Lib.hid (show fewV l = true by rw [HV.out, List.eq_nil_of_length_eq_zero hl]; rfl)
      clear hr hl hf
      go_enter Tryd.func7, Tryd.ntmps7
      go_wp2
      refine wp_loop_rounds 1 ?_
      rw [rounds_succ]
      go_wp2
      go_ret
      exact ⟨ret_bool HE.out.symm, rfl⟩
    · have HR := Lib.hid hr
      have HL := Lib.hid hl
      have HF := Lib.hid hf
      clear hr hl hf
      go_enter Tryd.func7, Tryd.ntmps7
      go_wp2
      go_loop [3] (fun i => ∃ k : Nat, k ≤ len ∧ i = .int .i64 k ∧ fewFrom (l.drop k) = fewFrom l) (fun i => len - (intOf i).toNat)
      case atStart => exact ⟨0, Nat.zero_le _, rfl, rfl⟩
      case round =>
        obtain ⟨k, hk, rfl, hrest⟩ := hrel
        have HS := Lib.hid hrest
        clear hrest
        by_cases hlt : k < len
        · obtain ⟨hb, c1, c2⟩ := HR.out.cells hlt
          have HI := Lib.hid (show k < l.length by rw [HL.out]; exact hlt)
          have hz := (HF.out k HI.out).1
          unfold maxLen at hz
          by_cases e : (nm l k).size ≤ 50
          · have E := Lib.hid (show fewFrom (l.drop k) = fewFrom (l.drop (k + 1)) by rw [drop_cons HI.out, fewFrom, decide_eq_true e]; rfl)
            go_wp2
            go_round
            case rel => exact ⟨k + 1, by omega, by go_num, E.out.symm.trans HS.out⟩
            case measure => simp [intOf]; omega
          · have E := Lib.hid (show fewFrom (l.drop k) = false by rw [drop_cons HI.out, fewFrom, decide_eq_false e]; rfl)
            have e' : 50 < (nm l k).size := by omega
            clear e
            go_wp2
            go_ret
            exact ⟨ret_bool (HV.out.trans (HS.out.symm.trans E.out)).symm, rfl⟩
        · have HI := Lib.hid (show fewFrom (l.drop k) = true by rw [List.drop_of_length_le (by rw [HL.out]; omega), fewFrom])
          go_wp2
          go_ret
          exact ⟨ret_bool (HV.out.trans (HS.out.symm.trans HI.out)).symm, rfl⟩
  · have HV := Lib.hid (show fewV l = false by unfold fewV; rw [decide_eq_false (by omega)]; rfl)
    have h9 : 20 < len := by omega
    clear h20 hr hl hf
    go_enter Tryd.func7, Tryd.ntmps7
    go_wp2
    go_ret
    exact ⟨ret_bool HV.out.symm, rfl⟩

/-- Alike, amount by amount. -/
def sameFrom : V → V → Bool
  | [], [] => true
  | x :: s, y :: t => (eqS x.1 y.1 && decide (x.2 = y.2)) && sameFrom s t
  | _, _ => false

theorem same_length : ∀ {l l' : V}, l.length ≠ l'.length → sameFrom l l' = false
  | [], [], h => absurd rfl h
  | [], _ :: _, _ => rfl
  | _ :: _, [], _ => rfl
  | x :: s, y :: t, h => by rw [sameFrom, same_length (l := s) (l' := t) (fun e => h (by simp [e])), Bool.and_false]

set_option maxHeartbeats 800000 in
theorem equal_any (a a' : Option Addr) (len cap len' cap' : Nat) (l l' : V) (w : World) (hr : VecAt w a len l) (hr' : VecAt w a' len' l') :
    Calls Tryd.prog 26 #[.slice a len cap, .slice a' len' cap'] w fun e w' => e = .returned (.bool (sameFrom l l')) ∧ Kept w w' := by
  have hl := hr.1
  have hm := hr.2.1
  have hl' := hr'.1
  have hm' := hr'.2.1
  unfold maxLen at hm hm'
  by_cases hll : len = len'
  · subst hll
    rcases hr.form with h0 | ⟨b, off, rfl⟩
    · subst h0
      have HE := Lib.hid (show sameFrom l l' = true by rw [List.eq_nil_of_length_eq_zero hl, List.eq_nil_of_length_eq_zero hl']; rfl)
      clear hr hl hr' hl'
      go_enter Tryd.func26, Tryd.ntmps26
      go_wp2
      refine wp_loop_rounds 1 ?_
      rw [rounds_succ]
      go_wp2
      go_ret
      exact ⟨ret_bool HE.out.symm, Kept.refl _⟩
    · rcases hr'.form with h0 | ⟨b', off', rfl⟩
      · subst h0
        have HE := Lib.hid (show sameFrom l l' = true by rw [List.eq_nil_of_length_eq_zero hl, List.eq_nil_of_length_eq_zero hl']; rfl)
        clear hr hl hr' hl'
        go_enter Tryd.func26, Tryd.ntmps26
        go_wp2
        refine wp_loop_rounds 1 ?_
        rw [rounds_succ]
        go_wp2
        go_ret
        exact ⟨ret_bool HE.out.symm, Kept.refl _⟩
      · have HR := Lib.hid hr
        have HL := Lib.hid hl
        have HR' := Lib.hid hr'
        have HL' := Lib.hid hl'
        clear hr hl hr' hl'
        go_enter Tryd.func26, Tryd.ntmps26
        go_wp2
        go_loopw [13] (fun i wr => ∃ k : Nat, k ≤ len ∧ i = .int .i64 k ∧ sameFrom (l.drop k) (l'.drop k) = sameFrom l l' ∧ Kept w wr) (fun i _ => len - (intOf i).toNat)
        case atStart => exact ⟨0, Nat.zero_le _, rfl, rfl, Kept.refl _⟩
        case round =>
          obtain ⟨k, hk, rfl, hrest, hK⟩ := hrel
          have HS := Lib.hid hrest
          have HK := Lib.hid hK
          by_cases hlt : k < len
          · obtain ⟨hb, c1, c2⟩ := (HR.out.kept hK).cells hlt
            obtain ⟨hb', d1, d2⟩ := (HR'.out.kept hK).cells hlt
            clear hrest hK
            have HI := Lib.hid (show k < l.length by rw [HL.out]; exact hlt)
            have HI' := Lib.hid (show k < l'.length by rw [HL'.out]; exact hlt)
            by_cases e1 : eqS (nm l k) (nm l' k) = true
            · have E1 := Lib.hid e1
              have e1' : ((nm l k).toList == (nm l' k).toList) = true := e1
              clear e1
              by_cases e2 : qn l k = qn l' k
              · have E := Lib.hid (show sameFrom (l.drop k) (l'.drop k) = sameFrom (l.drop (k + 1)) (l'.drop (k + 1)) by
                  rw [drop_cons HI.out, drop_cons HI'.out, sameFrom, E1.out, decide_eq_true e2]; rfl)
                have e2' : (qn l k == qn l' k) = true := by simpa using e2
                clear e2
                go_wp2
                go_quiet (fail)
                go_wp2
                go_roundw
                case rel => exact ⟨k + 1, by omega, by go_num, E.out.symm.trans HS.out, HK.out.trans (Kept.drewN _ _)⟩
                case measure => simp [intOf]; omega
              · have E := Lib.hid (show sameFrom (l.drop k) (l'.drop k) = false by
                  rw [drop_cons HI.out, drop_cons HI'.out, sameFrom, E1.out, decide_eq_false e2]; rfl)
                have e2' : (qn l k == qn l' k) = false := by simpa using e2
                clear e2
                go_wp2
                go_quiet (fail)
                go_wp2
                go_ret
                exact ⟨ret_bool (HS.out.symm.trans E.out).symm, HK.out.trans (Kept.drewN _ _)⟩
            · have e1 : eqS (nm l k) (nm l' k) = false := by simpa using e1
              have E := Lib.hid (show sameFrom (l.drop k) (l'.drop k) = false by
                rw [drop_cons HI.out, drop_cons HI'.out, sameFrom, e1]; rfl)
              have e1' : ((nm l k).toList == (nm l' k).toList) = false := e1
              clear e1
              go_wp2
              go_quiet (fail)
              go_wp2
              go_ret
              exact ⟨ret_bool (HS.out.symm.trans E.out).symm, HK.out.trans (Kept.drewN _ _)⟩
          · have E := Lib.hid (show sameFrom (l.drop k) (l'.drop k) = true by
              rw [List.drop_of_length_le (by rw [HL.out]; omega), List.drop_of_length_le (by rw [HL'.out]; omega), sameFrom])
            clear hrest hK
            go_wp2
            go_ret
            exact ⟨ret_bool (HS.out.symm.trans E.out).symm, HK.out⟩
  · have HV := Lib.hid (show sameFrom l l' = false from same_length (by omega))
    clear hr hl hr' hl'
    have hn : ((len : Int) != (len' : Int)) = true := by
      simp only [bne_iff_ne, ne_eq]; omega
    clear hll
    go_enter Tryd.func26, Tryd.ntmps26
    go_wp2
    go_ret
    exact ⟨ret_bool HV.out.symm, Kept.refl _⟩

theorem same_any (a a' : Option Addr) (len cap len' cap' : Nat) (l l' : V) (w : World) (hr : VecAt w a len l) (hr' : VecAt w a' len' l') :
    Calls Tryd.prog 11 #[.slice a len cap, .slice a' len' cap'] w fun e w' => e = .returned (.bool (sameFrom l l')) ∧ Kept w w' := by
  have H := Lib.hid hr
  have H' := Lib.hid hr'
  clear hr hr'
  go_enter Tryd.func11, Tryd.ntmps11
  go_wp2_with fail
  refine (equal_any _ _ _ _ _ _ l l' _ H.out H'.out).mono ?_
  rintro e w' ⟨rfl, hk⟩
  go_wp2
  go_ret
  exact ⟨rfl, hk⟩

theorem held_kept {w W : World} {p q : Prop} (h : p ∧ q ∧ Kept w W) : Kept w W := h.2.2
theorem held_step {w W W' : World} {a b : Addr} {x y : Value} (h : W.cell? a = some x ∧ W.cell? b = some y ∧ Kept w W) (k : Kept W W') : W'.cell? a = some x ∧ W'.cell? b = some y ∧ Kept w W' :=
  ⟨cell_later k h.1, cell_later k h.2.1, h.2.2.trans k⟩

/-- The one fits the other. -/
def fitsFrom (have_ : V) : V → Bool
  | [] => true
  | x :: t => decide (x.2 ≤ getV have_ x.1) && fitsFrom have_ t

set_option maxHeartbeats 800000 in
theorem fits_any (a a' : Option Addr) (len cap len' cap' : Nat) (l l' : V) (w : World) (hr : VecAt w a len l) (hr' : VecAt w a' len' l') :
    Calls Tryd.prog 13 #[.slice a len cap, .slice a' len' cap'] w fun e w' => e = .returned (.bool (fitsFrom l' l)) ∧ Kept w w' := by
  have hl := hr.1
  have hm := hr.2.1
  unfold maxLen at hm
  rcases hr.form with h0 | ⟨b, off, rfl⟩
  · subst h0
    have HE := Lib.hid (show fitsFrom l' l = true by rw [List.eq_nil_of_length_eq_zero hl]; rfl)
    clear hr hl hr'
    go_enter Tryd.func13, Tryd.ntmps13
    go_wp2
    refine wp_loop_rounds 1 ?_
    rw [rounds_succ]
    go_wp2
    go_ret
    exact ⟨ret_bool HE.out.symm, Kept.refl _⟩
  · have HR := Lib.hid hr
    have HL := Lib.hid hl
    have HR' := Lib.hid hr'
    clear hr hl hr'
    go_enter Tryd.func13, Tryd.ntmps13
    go_wp2
    go_loopw [9] (fun i wr => ∃ k : Nat, k ≤ len ∧ i = .int .i64 k ∧ fitsFrom l' (l.drop k) = fitsFrom l' l ∧ Kept w wr) (fun i _ => len - (intOf i).toNat)
    case atStart => exact ⟨0, Nat.zero_le _, rfl, rfl, Kept.refl _⟩
    case round =>
      obtain ⟨k, hk, rfl, hrest, hK⟩ := hrel
      have HS := Lib.hid hrest
      have HK := Lib.hid hK
      by_cases hlt : k < len
      · obtain ⟨hb, c1, c2⟩ := (HR.out.kept hK).cells hlt
        clear hrest hK
        have HI := Lib.hid (show k < l.length by rw [HL.out]; exact hlt)
        by_cases e : qn l k ≤ getV l' (nm l k)
        · have E := Lib.hid (show fitsFrom l' (l.drop k) = fitsFrom l' (l.drop (k + 1)) by rw [drop_cons HI.out, fitsFrom, decide_eq_true e]; rfl)
          go_wp2
          have f1 : ((wr.alloc (.cells #[.string (nm l k), .int .i64 (qn l k)] 38)).drew).cell? ⟨wr.heap.size, 0, none⟩ = some (.string (nm l k)) := by go_simp
          have f2 : ((wr.alloc (.cells #[.string (nm l k), .int .i64 (qn l k)] 38)).drew).cell? ⟨wr.heap.size, 1, none⟩ = some (.int .i64 (qn l k)) := by go_simp
          have f3 : Kept w ((wr.alloc (.cells #[.string (nm l k), .int .i64 (qn l k)] 38)).drew) := (HK.out.trans (kept_alloc _ _)).trans (Kept.drewN _ 1)
          go_region_held3 (fun W => W.cell? ⟨wr.heap.size, 0, none⟩ = some (.string (nm l k)) ∧ W.cell? ⟨wr.heap.size, 1, none⟩ = some (.int .i64 (qn l k)) ∧ Kept w W) (first | exact ⟨f1, f2, f3⟩ | assumption | exact held_step (by assumption) (by assumption))
            (first | (go_at_call 19; refine (get_any _ _ _ l' _ _ (HR'.out.kept (held_kept (by assumption)))).mono ?_; rintro e W2 ⟨rfl, hk2⟩))
          all_goals
            go_wp2
            go_roundw
            case rel => exact ⟨k + 1, by omega, by go_num, E.out.symm.trans HS.out, held_kept (by assumption)⟩
            case measure => simp [intOf]; omega
        · have E := Lib.hid (show fitsFrom l' (l.drop k) = false by rw [drop_cons HI.out, fitsFrom, decide_eq_false e]; rfl)
          have e' : getV l' (nm l k) < qn l k := by omega
          clear e
          go_wp2
          have f1 : ((wr.alloc (.cells #[.string (nm l k), .int .i64 (qn l k)] 38)).drew).cell? ⟨wr.heap.size, 0, none⟩ = some (.string (nm l k)) := by go_simp
          have f2 : ((wr.alloc (.cells #[.string (nm l k), .int .i64 (qn l k)] 38)).drew).cell? ⟨wr.heap.size, 1, none⟩ = some (.int .i64 (qn l k)) := by go_simp
          have f3 : Kept w ((wr.alloc (.cells #[.string (nm l k), .int .i64 (qn l k)] 38)).drew) := (HK.out.trans (kept_alloc _ _)).trans (Kept.drewN _ 1)
          go_region_held3 (fun W => W.cell? ⟨wr.heap.size, 0, none⟩ = some (.string (nm l k)) ∧ W.cell? ⟨wr.heap.size, 1, none⟩ = some (.int .i64 (qn l k)) ∧ Kept w W) (first | exact ⟨f1, f2, f3⟩ | assumption | exact held_step (by assumption) (by assumption))
            (first | (go_at_call 19; refine (get_any _ _ _ l' _ _ (HR'.out.kept (held_kept (by assumption)))).mono ?_; rintro e W2 ⟨rfl, hk2⟩))
          all_goals
            go_wp2
            go_ret
            exact ⟨ret_bool (HS.out.symm.trans E.out).symm, held_kept (by assumption)⟩
      · have E := Lib.hid (show fitsFrom l' (l.drop k) = true by rw [List.drop_of_length_le (by rw [HL.out]; omega), fitsFrom])
        clear hrest hK
        go_wp2
        go_ret
        exact ⟨ret_bool (HS.out.symm.trans E.out).symm, HK.out⟩

end Go.Proofs.YtnnneimpdiadhaaDoor.Vec
