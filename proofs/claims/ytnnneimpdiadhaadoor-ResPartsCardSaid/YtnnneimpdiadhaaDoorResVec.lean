/- Vectors read: whether they may be, a name's amount, whether short. -/
import Derived.Test.YtnnneimpdiadhaaDoorLabName
import Derived.Test.YtnnneimpdiadhaaDoorResBase
namespace Go.Proofs.YtnnneimpdiadhaaDoor.Vec
open Go.RowKit
set_option linter.unusedVariables false

theorem drop_cons {l : V} {k : Nat} (h : k < l.length) : l.drop k = (nm l k, qn l k) :: l.drop (k + 1) := by
  rw [List.drop_eq_getElem_cons h]
  have : l.getD k (ByteArray.empty, 0) = l[k] := by simp [List.getD, h]
  simp only [nm, qn, this]

theorem VecAt.cells {w : World} {b off len : Nat} {l : V} {k : Nat} (h : VecAt w (some ⟨b, off, none⟩) len l) (hk : k < len) :
    b < w.heap.size ∧ w.cell? ⟨b, off + k * 2, none⟩ = some (.string (nm l k)) ∧ w.cell? ⟨b, off + k * 2 + 1, none⟩ = some (.int .i64 (qn l k)) := by
  obtain ⟨_, _, _, h3⟩ := h
  rcases h3 with h3 | ⟨b', off', e, hb, hc⟩
  · omega
  · injection e with e; injection e with e1 e2 e3; subst e1; subst e2
    exact ⟨hb, hc k hk⟩
theorem VecAt.form {w : World} {a : Option Addr} {len : Nat} {l : V} (h : VecAt w a len l) : len = 0 ∨ ∃ b off, a = some ⟨b, off, none⟩ := by
  obtain ⟨_, _, _, h3⟩ := h
  exact h3.imp id fun ⟨b, off, e, _⟩ => ⟨b, off, e⟩

def prevAt (l : V) (k : Nat) : Option ByteArray := if k = 0 then none else some (nm l (k - 1))
def behindB (prev : Option ByteArray) (s : ByteArray) : Bool := match prev with | none => false | some p => leS s p
def checkFrom : Option ByteArray → V → Int
  | _, [] => 0
  | prev, x :: t => if isName x.1 = false then 3 else if x.2 ≤ 0 then 1 else if behindB prev x.1 = true then 13 else checkFrom (some x.1) t
def checkV (l : V) : Int := if 8 < l.length then 4 else checkFrom none l

theorem behind_zero {l : V} {k : Nat} (h : k = 0) (s : ByteArray) : behindB (prevAt l k) s = false := by unfold prevAt; rw [if_pos h]; rfl
theorem behind_prev {l : V} {k : Nat} (h : ¬ k = 0) (s : ByteArray) : behindB (prevAt l k) s = leS s (nm l (k - 1)) := by unfold prevAt; rw [if_neg h]; rfl
theorem prev_succ (l : V) (k : Nat) : prevAt l (k + 1) = some (nm l k) := by unfold prevAt; rw [if_neg (by omega)]; rfl
theorem chk_name {l : V} {k : Nat} {p : Option ByteArray} (h : k < l.length) (n1 : isName (nm l k) = false) : checkFrom p (l.drop k) = 3 := by
  rw [drop_cons h, checkFrom, if_pos n1]
theorem chk_arg {l : V} {k : Nat} {p : Option ByteArray} (h : k < l.length) (n1 : isName (nm l k) = true) (n2 : qn l k ≤ 0) : checkFrom p (l.drop k) = 1 := by
  rw [drop_cons h, checkFrom, if_neg (by rw [n1]; decide), if_pos n2]
theorem chk_order {l : V} {k : Nat} {p : Option ByteArray} (h : k < l.length) (n1 : isName (nm l k) = true) (n2 : 0 < qn l k) (n3 : behindB p (nm l k) = true) : checkFrom p (l.drop k) = 13 := by
  rw [drop_cons h, checkFrom, if_neg (by rw [n1]; decide), if_neg (by omega), if_pos n3]
theorem chk_next {l : V} {k : Nat} {p : Option ByteArray} (h : k < l.length) (n1 : isName (nm l k) = true) (n2 : 0 < qn l k) (n3 : behindB p (nm l k) = false) : checkFrom p (l.drop k) = checkFrom (prevAt l (k + 1)) (l.drop (k + 1)) := by
  rw [drop_cons h, checkFrom, if_neg (by rw [n1]; decide), if_neg (by omega), if_neg (by rw [n3]; decide), prev_succ]
theorem chk_end {l : V} {k : Nat} {p : Option ByteArray} (h : ¬ k < l.length) : checkFrom p (l.drop k) = 0 := by
  rw [List.drop_of_length_le (by omega), checkFrom]

set_option maxHeartbeats 800000 in
theorem refCheck_any (a : Option Addr) (len cap : Nat) (l : V) (w : World) (hr : VecAt w a len l) :
    Calls Tryd.prog 8 #[.slice a len cap] w fun e w' => e = .returned (.int .i64 (checkV l)) ∧ Kept w w' := by
  have hl := hr.1
  have hm := hr.2.1
  unfold maxLen at hm
  have hf := hr.2.2.1
  by_cases h8 : len ≤ 8
  · have HV := Lib.hid (show checkV l = checkFrom none l by unfold checkV; rw [if_neg (by omega)])
    rcases hr.form with h0 | ⟨b, off, rfl⟩
    · subst h0
      have HE := Lib.hid (show checkV l = 0 by rw [HV.out]; rw [List.eq_nil_of_length_eq_zero hl]; rfl)
      clear hr hl hf
      go_enter Tryd.func8, Tryd.ntmps8
      go_wp2
      refine wp_loop_rounds 1 ?_
      rw [rounds_succ]
      go_wp2
      go_ret
      exact ⟨ret_i64 HE.out.symm, Kept.refl _⟩
    · have HF := Lib.hid hf
      have HR := Lib.hid hr
      have HL := Lib.hid hl
      clear hf hr hl
      go_enter Tryd.func8, Tryd.ntmps8
      go_wp2
      go_loopw [3] (fun i wr => ∃ k : Nat, k ≤ len ∧ i = .int .i64 k ∧ checkFrom (prevAt l k) (l.drop k) = checkFrom none l ∧ Kept w wr) (fun i _ => len - (intOf i).toNat)
      case atStart => exact ⟨0, Nat.zero_le _, rfl, rfl, Kept.refl _⟩
      case round =>
        obtain ⟨k, hk, rfl, hrest, hK⟩ := hrel
        by_cases hlt : k < len
        · have HK := Lib.hid hK
          have HS := Lib.hid (HV.out.trans hrest.symm)
          have HT := Lib.hid hrest
          obtain ⟨hb, c1, c2⟩ := (HR.out.kept hK).cells hlt
          clear hK hrest
          have hz : (nm l k).size ≤ maxLen := (HF.out k (by rw [HL.out]; exact hlt)).1
          have HI := Lib.hid (show k < l.length by rw [HL.out]; exact hlt)
          by_cases n1 : isName (nm l k) = true
          · have N1 := Lib.hid n1
            by_cases n2 : qn l k ≤ 0
            · have N2 := Lib.hid n2
              go_wp2_with (go_at_call 21; refine (refName_any _ _ hz).mono ?_; rintro e w' ⟨rfl, rfl⟩)
              go_ret
              exact ⟨ret_i64 (HS.out.trans (chk_arg HI.out N1.out N2.out)).symm, HK.out⟩
            · have n2 : 0 < qn l k := by omega
              have N2 := Lib.hid n2
              by_cases h0 : k = 0
              · have hd : decide (0 < k) = false := by subst h0; decide
                have HP := Lib.hid (behind_zero (l := l) h0 (nm l k))
                clear h0
                go_wp2_with (go_at_call 21; refine (refName_any _ _ hz).mono ?_; rintro e w' ⟨rfl, rfl⟩)
                go_quiet (fail)
                go_wp2
                go_roundw
                case rel => exact ⟨k + 1, by omega, by go_num, (chk_next HI.out N1.out N2.out HP.out).symm.trans HT.out, HK.out.trans (Kept.drewN _ _)⟩
                case measure => simp [intOf]; omega
              · have hd : decide (0 < k) = true := by simp; omega
                have g1 : 0 ≤ (k : Int) - 1 := by omega
                have g2 : (k : Int) - 1 < (len : Int) := by omega
                have g3 : ((k : Int) - 1).toNat = k - 1 := by omega
                have HP := Lib.hid (behind_prev (l := l) h0 (nm l k))
                obtain ⟨_, d1, d2⟩ := (HR.out.kept HK.out).cells (show k - 1 < len by omega)
                by_cases n3 : leS (nm l k) (nm l (k - 1)) = true
                · have n3' : (Op.bytesLess (nm l k).toList (nm l (k - 1)).toList || (nm l k).toList == (nm l (k - 1)).toList) = true := n3
                  have N3 := Lib.hid n3
                  clear n3
                  go_wp2_with (go_at_call 21; refine (refName_any _ _ hz).mono ?_; rintro e w' ⟨rfl, rfl⟩)
                  go_quiet (fail)
                  go_wp2
                  go_ret
                  exact ⟨ret_i64 (HS.out.trans (chk_order HI.out N1.out N2.out (HP.out.trans N3.out))).symm, HK.out.trans (Kept.drewN _ _)⟩
                · have n3 : leS (nm l k) (nm l (k - 1)) = false := by simpa using n3
                  have n3' : (Op.bytesLess (nm l k).toList (nm l (k - 1)).toList || (nm l k).toList == (nm l (k - 1)).toList) = false := n3
                  have N3 := Lib.hid n3
                  clear n3
                  go_wp2_with (go_at_call 21; refine (refName_any _ _ hz).mono ?_; rintro e w' ⟨rfl, rfl⟩)
                  go_quiet (fail)
                  go_wp2
                  go_roundw
                  case rel => exact ⟨k + 1, by omega, by go_num, (chk_next HI.out N1.out N2.out (HP.out.trans N3.out)).symm.trans HT.out, HK.out.trans (Kept.drewN _ _)⟩
                  case measure => simp [intOf]; omega
          · have n1 : isName (nm l k) = false := by simpa using n1
            have N1 := Lib.hid n1
            go_wp2_with (go_at_call 21; refine (refName_any _ _ hz).mono ?_; rintro e w' ⟨rfl, rfl⟩)
            go_ret
            exact ⟨ret_i64 (HS.out.trans (chk_name HI.out N1.out)).symm, HK.out⟩
        · have HK := Lib.hid hK
          have HS := Lib.hid (HV.out.trans hrest.symm)
          have HI := Lib.hid (show ¬ k < l.length by rw [HL.out]; exact hlt)
          clear hK hrest
          go_wp2
          go_ret
          exact ⟨ret_i64 (HS.out.trans (chk_end HI.out)).symm, HK.out⟩
  · have HV := Lib.hid (show checkV l = 4 by unfold checkV; rw [if_pos (by omega)])
    have h9 : 8 < len := by omega
    clear h8 hr hl hf
    go_enter Tryd.func8, Tryd.ntmps8
    go_wp2
    go_ret
    exact ⟨ret_i64 HV.out.symm, Kept.refl _⟩

theorem long_ok (a : Option Addr) (len cap : Nat) (w : World) (h : len ≤ 8) :
    Calls Tryd.prog 47 #[.slice a len cap] w fun e w' => e = .returned (.tuple #[]) ∧ w = w' := by
  go_enter Tryd.func47, Tryd.ntmps47
  go_wp2
  go_end0
  exact ⟨rfl, rfl⟩
theorem long_bad (a : Option Addr) (len cap : Nat) (w : World) (h : 8 < len) (hm : len ≤ 9223372036854775807) :
    Calls Tryd.prog 47 #[.slice a len cap] w fun e w' => e = .panicked [perr 4] ∧ w = w' := by
  go_enter Tryd.func47, Tryd.ntmps47
  go_wp2
  exact ⟨rfl, rfl, rfl⟩

/-- What checked does. -/
def Chk (l : V) (v : Value) (w : World) (e : Ending) (w' : World) : Prop :=
  (checkV l = 0 → e = .returned v) ∧ (checkV l ≠ 0 → e = .panicked [perr (checkV l)]) ∧ Kept w w'
theorem Chk.good {l : V} {v : Value} {w w' : World} (h : checkV l = 0) (k : Kept w w') : Chk l v w (.returned v) w' := ⟨fun _ => rfl, fun g => absurd h g, k⟩
theorem Chk.bad {l : V} {v : Value} {w w' : World} {c : Int} (h : checkV l = c) (hc : c ≠ 0) (k : Kept w w') : Chk l v w (.panicked [perr c]) w' := ⟨fun g => absurd (h.symm.trans g) hc, fun _ => by rw [h], k⟩

set_option maxHeartbeats 800000 in
theorem checked_any (a : Option Addr) (len cap : Nat) (l : V) (w : World) (hr : VecAt w a len l) :
    Calls Tryd.prog 30 #[.slice a len cap] w (Chk l (.slice a len cap) w) := by
  have hl := hr.1
  have hm := hr.2.1
  unfold maxLen at hm
  have hm' : len ≤ 9223372036854775807 := by omega
  have hf := hr.2.2.1
  by_cases h8 : len ≤ 8
  · have HV := Lib.hid (show checkV l = checkFrom none l by unfold checkV; rw [if_neg (by omega)])
    rcases hr.form with h0 | ⟨b, off, rfl⟩
    · subst h0
      have HE := Lib.hid (show checkV l = 0 by rw [HV.out]; rw [List.eq_nil_of_length_eq_zero hl]; rfl)
      clear hr hl hf
      go_enter Tryd.func30, Tryd.ntmps30
      go_wp2_with (go_at_call 47; refine (long_ok _ _ _ _ (by omega)).mono ?_; rintro e w' ⟨rfl, rfl⟩)
      refine wp_loop_rounds 1 ?_
      rw [rounds_succ]
      go_wp2
      go_ret
      exact Chk.good HE.out (Kept.refl _)
    · have HF := Lib.hid hf
      have HR := Lib.hid hr
      have HL := Lib.hid hl
      clear hf hr hl
      go_enter Tryd.func30, Tryd.ntmps30
      go_wp2_with (go_at_call 47; refine (long_ok _ _ _ _ h8).mono ?_; rintro e w' ⟨rfl, rfl⟩)
      go_loopw [9] (fun i wr => ∃ k : Nat, k ≤ len ∧ i = .int .i64 k ∧ checkFrom (prevAt l k) (l.drop k) = checkFrom none l ∧ Kept w wr) (fun i _ => len - (intOf i).toNat)
      case atStart => exact ⟨0, Nat.zero_le _, rfl, rfl, Kept.refl _⟩
      case round =>
        obtain ⟨k, hk, rfl, hrest, hK⟩ := hrel
        by_cases hlt : k < len
        · have HK := Lib.hid hK
          have HS := Lib.hid (HV.out.trans hrest.symm)
          have HT := Lib.hid hrest
          obtain ⟨hb, c1, c2⟩ := (HR.out.kept hK).cells hlt
          clear hK hrest
          have hz : (nm l k).size ≤ maxLen := (HF.out k (by rw [HL.out]; exact hlt)).1
          have HI := Lib.hid (show k < l.length by rw [HL.out]; exact hlt)
          by_cases n1 : isName (nm l k) = true
          · have N1 := Lib.hid n1
            by_cases n2 : qn l k ≤ 0
            · have N2 := Lib.hid n2
              go_wp2_with (go_at_call 20; refine (name_any _ _ hz).mono ?_; rintro e w' ⟨rfl, rfl⟩)
              exact ⟨rfl, Chk.bad (HS.out.trans (chk_arg HI.out N1.out N2.out)) (by decide) (HK.out.trans (kept_alloc _ _))⟩
            · have n2 : 0 < qn l k := by omega
              have N2 := Lib.hid n2
              by_cases h0 : k = 0
              · have hd : decide (0 < k) = false := by subst h0; decide
                have HP := Lib.hid (behind_zero (l := l) h0 (nm l k))
                clear h0
                go_wp2_with (go_at_call 20; refine (name_any _ _ hz).mono ?_; rintro e w' ⟨rfl, rfl⟩)
                go_quiet (fail)
                go_wp2
                go_roundw
                case rel => exact ⟨k + 1, by omega, by go_num, (chk_next HI.out N1.out N2.out HP.out).symm.trans HT.out, (HK.out.trans (kept_alloc_drew _ _ _))⟩
                case measure => simp [intOf]; omega
              · have hd : decide (0 < k) = true := by simp; omega
                have g1 : 0 ≤ (k : Int) - 1 := by omega
                have g2 : (k : Int) - 1 < (len : Int) := by omega
                have g3 : ((k : Int) - 1).toNat = k - 1 := by omega
                have HP := Lib.hid (behind_prev (l := l) h0 (nm l k))
                obtain ⟨_, d1, d2⟩ := (HR.out.kept HK.out).cells (show k - 1 < len by omega)
                by_cases n3 : leS (nm l k) (nm l (k - 1)) = true
                · have n3' : (Op.bytesLess (nm l k).toList (nm l (k - 1)).toList || (nm l k).toList == (nm l (k - 1)).toList) = true := n3
                  have N3 := Lib.hid n3
                  clear n3
                  go_wp2_with (go_at_call 20; refine (name_any _ _ hz).mono ?_; rintro e w' ⟨rfl, rfl⟩)
                  go_quiet (fail)
                  go_wp2
                  exact ⟨rfl, Chk.bad (HS.out.trans (chk_order HI.out N1.out N2.out (HP.out.trans N3.out))) (by decide) (HK.out.trans (kept_alloc_drew _ _ _))⟩
                · have n3 : leS (nm l k) (nm l (k - 1)) = false := by simpa using n3
                  have n3' : (Op.bytesLess (nm l k).toList (nm l (k - 1)).toList || (nm l k).toList == (nm l (k - 1)).toList) = false := n3
                  have N3 := Lib.hid n3
                  clear n3
                  go_wp2_with (go_at_call 20; refine (name_any _ _ hz).mono ?_; rintro e w' ⟨rfl, rfl⟩)
                  go_quiet (fail)
                  go_wp2
                  go_roundw
                  case rel => exact ⟨k + 1, by omega, by go_num, (chk_next HI.out N1.out N2.out (HP.out.trans N3.out)).symm.trans HT.out, (HK.out.trans (kept_alloc_drew _ _ _))⟩
                  case measure => simp [intOf]; omega
          · have n1 : isName (nm l k) = false := by simpa using n1
            have N1 := Lib.hid n1
            go_wp2_with (go_at_call 20; refine (name_any _ _ hz).mono ?_; rintro e w' ⟨rfl, rfl⟩)
            exact ⟨rfl, Chk.bad (HS.out.trans (chk_name HI.out N1.out)) (by decide) (HK.out.trans (kept_alloc _ _))⟩
        · have HK := Lib.hid hK
          have HS := Lib.hid (HV.out.trans hrest.symm)
          have HI := Lib.hid (show ¬ k < l.length by rw [HL.out]; exact hlt)
          clear hK hrest
          go_wp2
          go_ret
          exact Chk.good (HS.out.trans (chk_end HI.out)) HK.out
  · have HV := Lib.hid (show checkV l = 4 by unfold checkV; rw [if_pos (by omega)])
    have h9 : 8 < len := by omega
    clear h8 hr hl hf hm
    go_enter Tryd.func30, Tryd.ntmps30
    go_wp2_with (go_at_call 47; refine (long_bad _ _ _ _ h9 hm').mono ?_; rintro e w' ⟨rfl, rfl⟩)
    exact ⟨rfl, Chk.bad HV.out (by decide) (Kept.refl _)⟩

end Go.Proofs.YtnnneimpdiadhaaDoor.Vec
