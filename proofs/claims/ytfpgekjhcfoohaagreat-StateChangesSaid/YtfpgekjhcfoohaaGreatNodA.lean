/- Package by package: contracts of the functions that the laws call. -/
import Derived.Test.YtfpgekjhcfoohaaGreatShort
import Derived.Test.YtfpgekjhcfoohaaGreatLab
import Derived.Test.YtfpgekjhcfoohaaGreatTai
import Derived.Test.YtfpgekjhcfoohaaGreatResC
import Derived.Deep.RegionHeld3
import Derived.Laws.BytesArg
import Derived.Test.YtfpgekjhcfoohaaGreatBase
/- Whether two rows of pairs, of taints are the same: slices.Equal, and the reference's loops. -/
set_option linter.unusedVariables false
namespace Go.Proofs.YtfpgekjhcfoohaaGreat
open Go.RowKit
def sameP : PL → PL → Bool
 | [], [] => true
 | x :: s, y :: t => (eqS x.1 y.1 && eqS x.2 y.2) && sameP s t
 | _, _ => false
def sameA : NL → NL → Bool
 | [], [] => true
 | x :: s, y :: t => (eqS x.1 y.1 && (eqS x.2.1 y.2.1 && (x.2.2 == y.2.2))) && sameA s t
 | _, _ => false
theorem sameP_length : ∀ {l l' : PL}, l.length ≠ l'.length → sameP l l' = false
 | [], [], h => absurd rfl h
 | [], _ :: _, _ => rfl
 | _ :: _, [], _ => rfl
 | x :: s, y :: t, h => by rw [sameP, sameP_length (l := s) (l' := t) (fun e => h (by simp [e])), Bool.and_false]
theorem sameA_length : ∀ {l l' : NL}, l.length ≠ l'.length → sameA l l' = false
 | [], [], h => absurd rfl h
 | [], _ :: _, _ => rfl
 | _ :: _, [], _ => rfl
 | x :: s, y :: t, h => by rw [sameA, sameA_length (l := s) (l' := t) (fun e => h (by simp [e])), Bool.and_false]
theorem sameP_self : ∀ l : PL, sameP l l = true
 | [] => rfl
 | x :: t => by rw [sameP, sameP_self t, eqS_self, eqS_self]; rfl
theorem sameA_self : ∀ l : NL, sameA l l = true
 | [] => rfl
 | x :: t => by rw [sameA, sameA_self t, eqS_self, eqS_self]; simp
set_option maxHeartbeats 800000 in
theorem equalP_any (a a' : Option Addr) (len cap len' cap' : Nat) (l l' : PL) (w : World) (hr : RowAt PairLay w a len l) (hr' : RowAt PairLay w a' len' l') :
 Calls Tryz.prog 74 #[.slice a len cap, .slice a' len' cap'] w fun e w' => e = .returned (.bool (sameP l l')) ∧ Kept w w' := by
 have hl := hr.1
 have hm := hr.2.1
 have hl' := hr'.1
 have hm' := hr'.2.1
 unfold maxLen at hm hm'
 by_cases hll : len = len'
 · subst hll
   by_cases h0 : len = 0
   · subst h0
     have HE := lH (show sameP l l' = true by rw [List.eq_nil_of_length_eq_zero hl, List.eq_nil_of_length_eq_zero hl']; rfl)
     clear hr hl hr' hl'
     go_enter Tryz.func74, Tryz.ntmps74
     go_wp2
     refine wp_loop_rounds 1 ?_
     rw [rounds_succ]
     go_wp2
     go_ret
     exact ⟨ret_bool HE.out.symm, Kept.refl _⟩
   · obtain ⟨b, off, rfl⟩ : ∃ b off, a = some ⟨b, off, none⟩ := hr.form.resolve_left h0
     obtain ⟨b', off', rfl⟩ : ∃ b off, a' = some ⟨b, off, none⟩ := hr'.form.resolve_left h0
     have HR := lH hr
     have HL := lH hl
     have HR' := lH hr'
     have HL' := lH hl'
     clear hr hl hr' hl' h0
     go_enter Tryz.func74, Tryz.ntmps74
     go_wp2
     go_loopw [13] (fun i wr => ∃ k : Nat, k ≤ len ∧ i = .int .i64 k ∧ sameP (l.drop k) (l'.drop k) = sameP l l' ∧ Kept w wr) (fun i _ => len - (intOf i).toNat)
     case atStart => exact ⟨0, Nat.zero_le _, rfl, rfl, Kept.refl _⟩
     case round =>
      obtain ⟨k, hk, rfl, hrest, hK⟩ := hrel
      have HS := lH hrest
      have HK := lH hK
      by_cases hlt : k < len
      · obtain ⟨x, y, hx, hd, hb, _, _, c1, c2⟩ := (HR.out.kept hK).pair hlt
        obtain ⟨x9, y9, hx9, hd9, hb9, _, _, d1, d2⟩ := (HR'.out.kept hK).pair hlt
        have HD := lH hd
        have HD9 := lH hd9
        clear hrest hK hx hx9 hd hd9
        by_cases e0 : eqS x x9 = true
        · have E0 := lH e0
          have e0' : (x.toList == x9.toList) = true := e0
          clear e0
          by_cases e1 : eqS y y9 = true
          · have E1 := lH e1
            have e1' : (y.toList == y9.toList) = true := e1
            clear e1
            have E := lH (show sameP (l.drop k) (l'.drop k) = sameP (l.drop (k + 1)) (l'.drop (k + 1)) by rw [HD.out, HD9.out, sameP, E0.out, E1.out]; rfl)
            go_wp2
            go_quiet (fail)
            go_wp2
            go_roundw
            case rel => exact ⟨k + 1, by omega, by go_num, E.out.symm.trans HS.out, HK.out.trans (Kept.drewN _ _)⟩
            case measure => simp [intOf]; omega
          · have e1 : eqS y y9 = false := by simpa using e1
            have E1 := lH e1
            have e1' : (y.toList == y9.toList) = false := e1
            clear e1
            have E := lH (show sameP (l.drop k) (l'.drop k) = false by rw [HD.out, HD9.out, sameP, E0.out, E1.out]; rfl)
            go_wp2
            go_quiet (fail)
            go_wp2
            go_ret
            exact ⟨ret_bool (HS.out.symm.trans E.out).symm, HK.out.trans (Kept.drewN _ _)⟩
        · have e0 : eqS x x9 = false := by simpa using e0
          have E0 := lH e0
          have e0' : (x.toList == x9.toList) = false := e0
          clear e0
          have E := lH (show sameP (l.drop k) (l'.drop k) = false by rw [HD.out, HD9.out, sameP, E0.out]; rfl)
          go_wp2
          go_quiet (fail)
          go_wp2
          go_ret
          exact ⟨ret_bool (HS.out.symm.trans E.out).symm, HK.out.trans (Kept.drewN _ _)⟩
      · have E := lH (show sameP (l.drop k) (l'.drop k) = true by
         rw [List.drop_of_length_le (by rw [HL.out]; omega), List.drop_of_length_le (by rw [HL'.out]; omega), sameP])
        clear hrest hK
        go_wp2
        go_ret
        exact ⟨ret_bool (HS.out.symm.trans E.out).symm, HK.out⟩
 · have HV := lH (show sameP l l' = false from sameP_length (by omega))
   clear hr hl hr' hl'
   have hn : ((len : Int) != (len' : Int)) = true := by
    simp only [bne_iff_ne, ne_eq]; omega
   clear hll
   go_enter Tryz.func74, Tryz.ntmps74
   go_wp2
   go_ret
   exact ⟨ret_bool HV.out.symm, Kept.refl _⟩
theorem equalPR {v v' : Value} {l l' : PL} {c : Bool} {w : World} (h : Reads PairLay w v l) (h' : Reads PairLay w v' l') (hc : sameP l l' = c) :
 Calls Tryz.prog 74 #[v, v'] w (Say (.bool c) w) := by
 subst hc
 obtain ⟨a, cap, rfl, _, _, hr⟩ := h
 obtain ⟨a', cap', rfl, _, _, hr'⟩ := h'
 exact equalP_any a a' _ cap _ cap' l l' w hr hr'
set_option maxHeartbeats 800000 in
theorem equalA_any (a a' : Option Addr) (len cap len' cap' : Nat) (l l' : NL) (w : World) (hr : RowAt TaLay w a len l) (hr' : RowAt TaLay w a' len' l') :
 Calls Tryz.prog 97 #[.slice a len cap, .slice a' len' cap'] w fun e w' => e = .returned (.bool (sameA l l')) ∧ Kept w w' := by
 have hl := hr.1
 have hm := hr.2.1
 have hl' := hr'.1
 have hm' := hr'.2.1
 unfold maxLen at hm hm'
 by_cases hll : len = len'
 · subst hll
   by_cases h0 : len = 0
   · subst h0
     have HE := lH (show sameA l l' = true by rw [List.eq_nil_of_length_eq_zero hl, List.eq_nil_of_length_eq_zero hl']; rfl)
     clear hr hl hr' hl'
     go_enter Tryz.func97, Tryz.ntmps97
     go_wp2
     refine wp_loop_rounds 1 ?_
     rw [rounds_succ]
     go_wp2
     go_ret
     exact ⟨ret_bool HE.out.symm, Kept.refl _⟩
   · obtain ⟨b, off, rfl⟩ : ∃ b off, a = some ⟨b, off, none⟩ := hr.form.resolve_left h0
     obtain ⟨b', off', rfl⟩ : ∃ b off, a' = some ⟨b, off, none⟩ := hr'.form.resolve_left h0
     have HR := lH hr
     have HL := lH hl
     have HR' := lH hr'
     have HL' := lH hl'
     clear hr hl hr' hl' h0
     go_enter Tryz.func97, Tryz.ntmps97
     go_wp2
     go_loopw [13] (fun i wr => ∃ k : Nat, k ≤ len ∧ i = .int .i64 k ∧ sameA (l.drop k) (l'.drop k) = sameA l l' ∧ Kept w wr) (fun i _ => len - (intOf i).toNat)
     case atStart => exact ⟨0, Nat.zero_le _, rfl, rfl, Kept.refl _⟩
     case round =>
      obtain ⟨k, hk, rfl, hrest, hK⟩ := hrel
      have HS := lH hrest
      have HK := lH hK
      by_cases hlt : k < len
      · obtain ⟨x, y, m, hx, hd, hb, _, _, c1, c2, c3⟩ := (HR.out.kept hK).tri hlt
        obtain ⟨x9, y9, m9, hx9, hd9, hb9, _, _, d1, d2, d3⟩ := (HR'.out.kept hK).tri hlt
        have HD := lH hd
        have HD9 := lH hd9
        clear hrest hK hx hx9 hd hd9
        by_cases e0 : eqS x x9 = true
        · have E0 := lH e0
          have e0' : (x.toList == x9.toList) = true := e0
          clear e0
          by_cases e1 : eqS y y9 = true
          · have E1 := lH e1
            have e1' : (y.toList == y9.toList) = true := e1
            clear e1
            by_cases e2 : (m == m9) = true
            · have E2 := lH e2
              have e2' : (m == m9) = true := e2
              clear e2
              have E := lH (show sameA (l.drop k) (l'.drop k) = sameA (l.drop (k + 1)) (l'.drop (k + 1)) by rw [HD.out, HD9.out, sameA, E0.out, E1.out, E2.out]; rfl)
              go_wp2
              go_quiet (fail)
              go_wp2
              go_roundw
              case rel => exact ⟨k + 1, by omega, by go_num, E.out.symm.trans HS.out, HK.out.trans (Kept.drewN _ _)⟩
              case measure => simp [intOf]; omega
            · have e2 : (m == m9) = false := by simpa using e2
              have E2 := lH e2
              have e2' : (m == m9) = false := e2
              clear e2
              have E := lH (show sameA (l.drop k) (l'.drop k) = false by rw [HD.out, HD9.out, sameA, E0.out, E1.out, E2.out]; rfl)
              go_wp2
              go_quiet (fail)
              go_wp2
              go_ret
              exact ⟨ret_bool (HS.out.symm.trans E.out).symm, HK.out.trans (Kept.drewN _ _)⟩
          · have e1 : eqS y y9 = false := by simpa using e1
            have E1 := lH e1
            have e1' : (y.toList == y9.toList) = false := e1
            clear e1
            have E := lH (show sameA (l.drop k) (l'.drop k) = false by rw [HD.out, HD9.out, sameA, E0.out, E1.out]; rfl)
            go_wp2
            go_quiet (fail)
            go_wp2
            go_ret
            exact ⟨ret_bool (HS.out.symm.trans E.out).symm, HK.out.trans (Kept.drewN _ _)⟩
        · have e0 : eqS x x9 = false := by simpa using e0
          have E0 := lH e0
          have e0' : (x.toList == x9.toList) = false := e0
          clear e0
          have E := lH (show sameA (l.drop k) (l'.drop k) = false by rw [HD.out, HD9.out, sameA, E0.out]; rfl)
          go_wp2
          go_quiet (fail)
          go_wp2
          go_ret
          exact ⟨ret_bool (HS.out.symm.trans E.out).symm, HK.out.trans (Kept.drewN _ _)⟩
      · have E := lH (show sameA (l.drop k) (l'.drop k) = true by
         rw [List.drop_of_length_le (by rw [HL.out]; omega), List.drop_of_length_le (by rw [HL'.out]; omega), sameA])
        clear hrest hK
        go_wp2
        go_ret
        exact ⟨ret_bool (HS.out.symm.trans E.out).symm, HK.out⟩
 · have HV := lH (show sameA l l' = false from sameA_length (by omega))
   clear hr hl hr' hl'
   have hn : ((len : Int) != (len' : Int)) = true := by
    simp only [bne_iff_ne, ne_eq]; omega
   clear hll
   go_enter Tryz.func97, Tryz.ntmps97
   go_wp2
   go_ret
   exact ⟨ret_bool HV.out.symm, Kept.refl _⟩
theorem equalAR {v v' : Value} {l l' : NL} {c : Bool} {w : World} (h : Reads TaLay w v l) (h' : Reads TaLay w v' l') (hc : sameA l l' = c) :
 Calls Tryz.prog 97 #[v, v'] w (Say (.bool c) w) := by
 subst hc
 obtain ⟨a, cap, rfl, _, _, hr⟩ := h
 obtain ⟨a', cap', rfl, _, _, hr'⟩ := h'
 exact equalA_any a a' _ cap _ cap' l l' w hr hr'
set_option maxHeartbeats 800000 in
theorem rsameP_any (a a' : Option Addr) (len cap len' cap' : Nat) (l l' : PL) (w : World) (hr : RowAt PairLay w a len l) (hr' : RowAt PairLay w a' len' l') :
 Calls Tryz.prog 99 #[.slice a len cap, .slice a' len' cap'] w fun e w' => e = .returned (.bool (sameP l l')) ∧ Kept w w' := by
 have hl := hr.1
 have hm := hr.2.1
 have hl' := hr'.1
 have hm' := hr'.2.1
 unfold maxLen at hm hm'
 by_cases hll : len = len'
 · subst hll
   by_cases h0 : len = 0
   · subst h0
     have HE := lH (show sameP l l' = true by rw [List.eq_nil_of_length_eq_zero hl, List.eq_nil_of_length_eq_zero hl']; rfl)
     clear hr hl hr' hl'
     go_enter Tryz.func99, Tryz.ntmps99
     go_wp2
     refine wp_loop_rounds 1 ?_
     rw [rounds_succ]
     go_wp2
     go_ret
     exact ⟨ret_bool HE.out.symm, Kept.refl _⟩
   · obtain ⟨b, off, rfl⟩ : ∃ b off, a = some ⟨b, off, none⟩ := hr.form.resolve_left h0
     obtain ⟨b', off', rfl⟩ : ∃ b off, a' = some ⟨b, off, none⟩ := hr'.form.resolve_left h0
     have HR := lH hr
     have HL := lH hl
     have HR' := lH hr'
     have HL' := lH hl'
     clear hr hl hr' hl' h0
     go_enter Tryz.func99, Tryz.ntmps99
     go_wp2
     go_loopw [5] (fun i wr => ∃ k : Nat, k ≤ len ∧ i = .int .i64 k ∧ sameP (l.drop k) (l'.drop k) = sameP l l' ∧ Kept w wr) (fun i _ => len - (intOf i).toNat)
     case atStart => exact ⟨0, Nat.zero_le _, rfl, rfl, Kept.refl _⟩
     case round =>
      obtain ⟨k, hk, rfl, hrest, hK⟩ := hrel
      have HS := lH hrest
      have HK := lH hK
      by_cases hlt : k < len
      · obtain ⟨x, y, hx, hd, hb, _, _, c1, c2⟩ := (HR.out.kept hK).pair hlt
        obtain ⟨x9, y9, hx9, hd9, hb9, _, _, d1, d2⟩ := (HR'.out.kept hK).pair hlt
        have HD := lH hd
        have HD9 := lH hd9
        clear hrest hK hx hx9 hd hd9
        by_cases e0 : eqS x x9 = true
        · have E0 := lH e0
          have e0' : (x.toList == x9.toList) = true := e0
          clear e0
          by_cases e1 : eqS y y9 = true
          · have E1 := lH e1
            have e1' : (y.toList == y9.toList) = true := e1
            clear e1
            have E := lH (show sameP (l.drop k) (l'.drop k) = sameP (l.drop (k + 1)) (l'.drop (k + 1)) by rw [HD.out, HD9.out, sameP, E0.out, E1.out]; rfl)
            go_wp2
            go_quiet (fail)
            go_wp2
            go_roundw
            case rel => exact ⟨k + 1, by omega, by go_num, E.out.symm.trans HS.out, HK.out.trans (Kept.drewN _ _)⟩
            case measure => simp [intOf]; omega
          · have e1 : eqS y y9 = false := by simpa using e1
            have E1 := lH e1
            have e1' : (y.toList == y9.toList) = false := e1
            clear e1
            have E := lH (show sameP (l.drop k) (l'.drop k) = false by rw [HD.out, HD9.out, sameP, E0.out, E1.out]; rfl)
            go_wp2
            go_quiet (fail)
            go_wp2
            go_ret
            exact ⟨ret_bool (HS.out.symm.trans E.out).symm, HK.out.trans (Kept.drewN _ _)⟩
        · have e0 : eqS x x9 = false := by simpa using e0
          have E0 := lH e0
          have e0' : (x.toList == x9.toList) = false := e0
          clear e0
          have E := lH (show sameP (l.drop k) (l'.drop k) = false by rw [HD.out, HD9.out, sameP, E0.out]; rfl)
          go_wp2
          go_quiet (fail)
          go_wp2
          go_ret
          exact ⟨ret_bool (HS.out.symm.trans E.out).symm, HK.out.trans (Kept.drewN _ _)⟩
      · have E := lH (show sameP (l.drop k) (l'.drop k) = true by
         rw [List.drop_of_length_le (by rw [HL.out]; omega), List.drop_of_length_le (by rw [HL'.out]; omega), sameP])
        clear hrest hK
        go_wp2
        go_ret
        exact ⟨ret_bool (HS.out.symm.trans E.out).symm, HK.out⟩
 · have HV := lH (show sameP l l' = false from sameP_length (by omega))
   clear hr hl hr' hl'
   have hn : ((len : Int) != (len' : Int)) = true := by
    simp only [bne_iff_ne, ne_eq]; omega
   clear hll
   go_enter Tryz.func99, Tryz.ntmps99
   go_wp2
   go_ret
   exact ⟨ret_bool HV.out.symm, Kept.refl _⟩
theorem rsamePR {v v' : Value} {l l' : PL} {c : Bool} {w : World} (h : Reads PairLay w v l) (h' : Reads PairLay w v' l') (hc : sameP l l' = c) :
 Calls Tryz.prog 99 #[v, v'] w (Say (.bool c) w) := by
 subst hc
 obtain ⟨a, cap, rfl, _, _, hr⟩ := h
 obtain ⟨a', cap', rfl, _, _, hr'⟩ := h'
 exact rsameP_any a a' _ cap _ cap' l l' w hr hr'
set_option maxHeartbeats 800000 in
theorem rsameA_any (a a' : Option Addr) (len cap len' cap' : Nat) (l l' : NL) (w : World) (hr : RowAt TaLay w a len l) (hr' : RowAt TaLay w a' len' l') :
 Calls Tryz.prog 100 #[.slice a len cap, .slice a' len' cap'] w fun e w' => e = .returned (.bool (sameA l l')) ∧ Kept w w' := by
 have hl := hr.1
 have hm := hr.2.1
 have hl' := hr'.1
 have hm' := hr'.2.1
 unfold maxLen at hm hm'
 by_cases hll : len = len'
 · subst hll
   by_cases h0 : len = 0
   · subst h0
     have HE := lH (show sameA l l' = true by rw [List.eq_nil_of_length_eq_zero hl, List.eq_nil_of_length_eq_zero hl']; rfl)
     clear hr hl hr' hl'
     go_enter Tryz.func100, Tryz.ntmps100
     go_wp2
     refine wp_loop_rounds 1 ?_
     rw [rounds_succ]
     go_wp2
     go_ret
     exact ⟨ret_bool HE.out.symm, Kept.refl _⟩
   · obtain ⟨b, off, rfl⟩ : ∃ b off, a = some ⟨b, off, none⟩ := hr.form.resolve_left h0
     obtain ⟨b', off', rfl⟩ : ∃ b off, a' = some ⟨b, off, none⟩ := hr'.form.resolve_left h0
     have HR := lH hr
     have HL := lH hl
     have HR' := lH hr'
     have HL' := lH hl'
     clear hr hl hr' hl' h0
     go_enter Tryz.func100, Tryz.ntmps100
     go_wp2
     go_loopw [5] (fun i wr => ∃ k : Nat, k ≤ len ∧ i = .int .i64 k ∧ sameA (l.drop k) (l'.drop k) = sameA l l' ∧ Kept w wr) (fun i _ => len - (intOf i).toNat)
     case atStart => exact ⟨0, Nat.zero_le _, rfl, rfl, Kept.refl _⟩
     case round =>
      obtain ⟨k, hk, rfl, hrest, hK⟩ := hrel
      have HS := lH hrest
      have HK := lH hK
      by_cases hlt : k < len
      · obtain ⟨x, y, m, hx, hd, hb, _, _, c1, c2, c3⟩ := (HR.out.kept hK).tri hlt
        obtain ⟨x9, y9, m9, hx9, hd9, hb9, _, _, d1, d2, d3⟩ := (HR'.out.kept hK).tri hlt
        have HD := lH hd
        have HD9 := lH hd9
        clear hrest hK hx hx9 hd hd9
        by_cases e0 : eqS x x9 = true
        · have E0 := lH e0
          have e0' : (x.toList == x9.toList) = true := e0
          clear e0
          by_cases e1 : eqS y y9 = true
          · have E1 := lH e1
            have e1' : (y.toList == y9.toList) = true := e1
            clear e1
            by_cases e2 : (m == m9) = true
            · have E2 := lH e2
              have e2' : (m == m9) = true := e2
              clear e2
              have E := lH (show sameA (l.drop k) (l'.drop k) = sameA (l.drop (k + 1)) (l'.drop (k + 1)) by rw [HD.out, HD9.out, sameA, E0.out, E1.out, E2.out]; rfl)
              go_wp2
              go_quiet (fail)
              go_wp2
              go_roundw
              case rel => exact ⟨k + 1, by omega, by go_num, E.out.symm.trans HS.out, HK.out.trans (Kept.drewN _ _)⟩
              case measure => simp [intOf]; omega
            · have e2 : (m == m9) = false := by simpa using e2
              have E2 := lH e2
              have e2' : (m == m9) = false := e2
              clear e2
              have E := lH (show sameA (l.drop k) (l'.drop k) = false by rw [HD.out, HD9.out, sameA, E0.out, E1.out, E2.out]; rfl)
              go_wp2
              go_quiet (fail)
              go_wp2
              go_ret
              exact ⟨ret_bool (HS.out.symm.trans E.out).symm, HK.out.trans (Kept.drewN _ _)⟩
          · have e1 : eqS y y9 = false := by simpa using e1
            have E1 := lH e1
            have e1' : (y.toList == y9.toList) = false := e1
            clear e1
            have E := lH (show sameA (l.drop k) (l'.drop k) = false by rw [HD.out, HD9.out, sameA, E0.out, E1.out]; rfl)
            go_wp2
            go_quiet (fail)
            go_wp2
            go_ret
            exact ⟨ret_bool (HS.out.symm.trans E.out).symm, HK.out.trans (Kept.drewN _ _)⟩
        · have e0 : eqS x x9 = false := by simpa using e0
          have E0 := lH e0
          have e0' : (x.toList == x9.toList) = false := e0
          clear e0
          have E := lH (show sameA (l.drop k) (l'.drop k) = false by rw [HD.out, HD9.out, sameA, E0.out]; rfl)
          go_wp2
          go_quiet (fail)
          go_wp2
          go_ret
          exact ⟨ret_bool (HS.out.symm.trans E.out).symm, HK.out.trans (Kept.drewN _ _)⟩
      · have E := lH (show sameA (l.drop k) (l'.drop k) = true by
         rw [List.drop_of_length_le (by rw [HL.out]; omega), List.drop_of_length_le (by rw [HL'.out]; omega), sameA])
        clear hrest hK
        go_wp2
        go_ret
        exact ⟨ret_bool (HS.out.symm.trans E.out).symm, HK.out⟩
 · have HV := lH (show sameA l l' = false from sameA_length (by omega))
   clear hr hl hr' hl'
   have hn : ((len : Int) != (len' : Int)) = true := by
    simp only [bne_iff_ne, ne_eq]; omega
   clear hll
   go_enter Tryz.func100, Tryz.ntmps100
   go_wp2
   go_ret
   exact ⟨ret_bool HV.out.symm, Kept.refl _⟩
theorem rsameAR {v v' : Value} {l l' : NL} {c : Bool} {w : World} (h : Reads TaLay w v l) (h' : Reads TaLay w v' l') (hc : sameA l l' = c) :
 Calls Tryz.prog 100 #[v, v'] w (Say (.bool c) w) := by
 subst hc
 obtain ⟨a, cap, rfl, _, _, hr⟩ := h
 obtain ⟨a', cap', rfl, _, _, hr'⟩ := h'
 exact rsameA_any a a' _ cap _ cap' l l' w hr hr'
open Go.RowKit
structure Nod where
 name : ByteArray
 cap : Vec.V
 labels : PL
 taints : NL
 cordon : Bool
def Nod.zero : Nod := ⟨ByteArray.empty, [], [], [], false⟩
abbrev NodV (n : Nod) (v1 v2 v3 : Value) : Value := .agg #[.string n.name, v1, v2, v3, .bool n.cordon]
structure NodAt (w : World) (v1 v2 v3 : Value) (n : Nod) : Prop where
 size : n.name.size ≤ maxLen
 cap : Vec.Reads w v1 n.cap
 labels : Reads PairLay w v2 n.labels
 taints : Reads TaLay w v3 n.taints
theorem NodAt.kept {w w' : World} {v1 v2 v3 : Value} {n : Nod} (h : NodAt w v1 v2 v3 n) (k : Kept w w') : NodAt w' v1 v2 v3 n := ⟨h.size, h.cap.kept k, h.labels.kept k, h.taints.kept k⟩
def NodR (w : World) (v : Value) (n : Nod) : Prop := ∃ v1 v2 v3, v = NodV n v1 v2 v3 ∧ NodAt w v1 v2 v3 n
theorem NodR.kept {w w' : World} {v : Value} {n : Nod} (h : NodR w v n) (k : Kept w w') : NodR w' v n := by
 obtain ⟨v1, v2, v3, e, h⟩ := h
 exact ⟨v1, v2, v3, e, h.kept k⟩
def chkNod (n : Nod) : Int := if isName n.name = false then 3 else if Vec.checkV n.cap ≠ 0 then Vec.checkV n.cap else if chkS n.labels ≠ 0 then chkS n.labels else chkA n.taints
def sameN (a b : Nod) : Bool := eqS a.name b.name && ((a.cordon == b.cordon) && (Vec.sameFrom a.cap b.cap && (sameP a.labels b.labels && sameA a.taints b.taints)))
theorem sameN_self (a : Nod) : sameN a a = true := by
 unfold sameN
 rw [eqS_self, Vec.same_self, sameP_self, sameA_self]; simp
def or3 (a b c : Int) : Int := if a ≠ 0 then a else if b ≠ 0 then b else c
theorem or3_any (b : Nat) (x y z : Int) (w : World) (c0 : w.cell? ⟨b, 0, none⟩ = some (.int .i64 x)) (c1 : w.cell? ⟨b, 1, none⟩ = some (.int .i64 y)) (c2 : w.cell? ⟨b, 2, none⟩ = some (.int .i64 z)) :
 Calls Tryz.prog 58 #[.slice (some ⟨b, 0, none⟩) 3 3] w fun e w' => e = .returned (.int .i64 (or3 x y z)) ∧ w = w' := by
 by_cases hx : x = 0
 · subst hx
   by_cases hy : y = 0
   · subst hy
     by_cases hz : z = 0
     · subst hz
       have HV := lH (show or3 0 0 0 = 0 from rfl)
       go_enter Tryz.func58, Tryz.ntmps58
       go_wp2
       refine wp_loop_rounds 4 ?_
       iterate 4
        rw [rounds_succ]
        go_wp2
       go_ret
       exact ⟨ret_i64 HV.out.symm, rfl⟩
     · have HV := lH (show or3 0 0 z = z from rfl)
       have hz' : (z != 0) = true := by simpa using hz
       clear hz
       go_enter Tryz.func58, Tryz.ntmps58
       go_wp2
       refine wp_loop_rounds 3 ?_
       iterate 3
        rw [rounds_succ]
        go_wp2
       go_ret
       exact ⟨ret_i64 HV.out.symm, rfl⟩
   · have HV := lH (show or3 0 y z = y by unfold or3; rw [if_neg (by decide), if_pos hy])
     have hy' : (y != 0) = true := by simpa using hy
     clear hy
     go_enter Tryz.func58, Tryz.ntmps58
     go_wp2
     refine wp_loop_rounds 2 ?_
     iterate 2
      rw [rounds_succ]
      go_wp2
     go_ret
     exact ⟨ret_i64 HV.out.symm, rfl⟩
 · have HV := lH (show or3 x y z = x by unfold or3; rw [if_pos hx])
   have hx' : (x != 0) = true := by simpa using hx
   clear hx
   go_enter Tryz.func58, Tryz.ntmps58
   go_wp2
   refine wp_loop_rounds 1 ?_
   rw [rounds_succ]
   go_wp2
   go_ret
   exact ⟨ret_i64 HV.out.symm, rfl⟩
set_option maxHeartbeats 800000 in
theorem checkN_any (n : Nod) (v1 v2 v3 : Value) (w : World) (h : NodAt w v1 v2 v3 n) :
 Calls Tryz.prog 149 #[NodV n v1 v2 v3] w (Say (.int .i64 (chkNod n)) w) := by
 by_cases h1 : isName n.name = true
 · have HV := lH (show chkNod n = or3 (Vec.checkV n.cap) (chkS n.labels) (chkA n.taints) by unfold chkNod; rw [if_neg (by rw [h1]; decide)]; rfl)
   obtain ⟨W0, hW0⟩ : ∃ W0, w.alloc (.cells #[.string n.name, v1, v2, v3, .bool n.cordon] 43) = W0 := ⟨_, rfl⟩
   have hk0 : Kept w W0 := by rw [← hW0]; exact kept_alloc _ _
   have HC := lH (show ∀ W, Kept W0 W → W.cell? ⟨w.heap.size, 0, none⟩ = some (.string n.name) ∧ W.cell? ⟨w.heap.size, 1, none⟩ = some v1 ∧ W.cell? ⟨w.heap.size, 2, none⟩ = some v2 ∧ W.cell? ⟨w.heap.size, 3, none⟩ = some v3 from fun W k => by
    have hh := w.alloc_heap_new (.cells #[.string n.name, v1, v2, v3, .bool n.cordon] 43)
    rw [hW0] at hh
    exact ⟨cell_later k (by rw [Lib.cell_of_heap hh]; rfl), cell_later k (by rw [Lib.cell_of_heap hh]; rfl), cell_later k (by rw [Lib.cell_of_heap hh]; rfl), cell_later k (by rw [Lib.cell_of_heap hh]; rfl)⟩)
   have H1 := lH (fun W (k : Kept W0 W) => Vec.checkR (h.cap.kept (hk0.trans k)) rfl)
   have H2 := lH (fun W (k : Kept W0 W) => checkR (h.labels.kept (hk0.trans k)) rfl)
   have H3 := lH (fun W (k : Kept W0 W) => checkAR (h.taints.kept (hk0.trans k)) rfl)
   have hsz := h.size
   have HK0 := lH hk0
   obtain ⟨x1, hx1⟩ : ∃ x, Vec.checkV n.cap = x := ⟨_, rfl⟩
   obtain ⟨x2, hx2⟩ : ∃ x, chkS n.labels = x := ⟨_, rfl⟩
   obtain ⟨x3, hx3⟩ : ∃ x, chkA n.taints = x := ⟨_, rfl⟩
   rw [hx1] at HV H1
   rw [hx2] at HV H2
   rw [hx3] at HV H3
   obtain ⟨c0, c1, c2, c3⟩ := HC.out _ (Kept.refl _)
   clear hx1 hx2 hx3 h hk0
   unfold NodV
   go_enter Tryz.func149, Tryz.ntmps149
   go_wp2_with fail
   refine (Vec.nameR hsz h1).mono ?_
   rintro e w' ⟨rfl, rfl⟩
   try rw [hW0]
   clear hW0
   go_wp2
   go_region_held3 (fun W => W.cell? ⟨w.heap.size, 1, none⟩ = some v1 ∧ W.cell? ⟨w.heap.size, 2, none⟩ = some v2 ∧ W.cell? ⟨w.heap.size, 3, none⟩ = some v3)
    (first | exact (HC.out _ (Kept.drew _)).2 | exact (HC.out _ K1.out).2 | exact (HC.out _ K2.out).2 | exact (HC.out _ K3.out).2 | exact (HC.out _ (K3.out.trans (kept_alloc _ _))).2)
    (first | (go_at_call 61; refine (H1.out _ (Kept.drew _)).mono ?_; rintro e1 w1 ⟨rfl, k1⟩; have K1 := lH ((Kept.drew _).trans k1); clear k1)
           | (go_at_call 62; refine (H2.out _ K1.out).mono ?_; rintro e2 w2 ⟨rfl, k2⟩; have K2 := lH (K1.out.trans k2); clear k2)
           | (go_at_call 174; refine (H3.out _ K2.out).mono ?_; rintro e3 w3 ⟨rfl, k3⟩; have K3 := lH (K2.out.trans k3); clear k3)
           | (go_at_call 58; refine (or3_any _ x1 x2 x3 _ (by go_simp) (by go_simp) (by go_simp)).mono ?_; rintro e4 w4 ⟨rfl, rfl⟩))
   go_wp2
   go_ret
   exact ⟨ret_i64 HV.out.symm, HK0.out.trans (K3.out.trans (kept_alloc _ _))⟩
 · have h1 : isName n.name = false := by simpa using h1
   have HV := lH (show chkNod n = 3 by unfold chkNod; rw [if_pos h1])
   have hsz := h.size
   clear h
   unfold NodV
   go_enter Tryz.func149, Tryz.ntmps149
   go_wp2_with (go_at_call 125; refine (Vec.nameR hsz h1).mono ?_; rintro e w' ⟨rfl, rfl⟩)
   go_ret
   exact ⟨ret_i64 HV.out.symm, kept_alloc _ _⟩
set_option maxHeartbeats 800000 in
theorem rcheckN_any (n : Nod) (v1 v2 v3 : Value) (w : World) (h : NodAt w v1 v2 v3 n) :
 Calls Tryz.prog 154 #[NodV n v1 v2 v3] w (Say (.int .i64 (chkNod n)) w) := by
 have hsz := h.size
 have HH := lH h
 by_cases h1 : isName n.name = true
 · obtain ⟨x1, hx1⟩ : ∃ x, Vec.checkV n.cap = x := ⟨_, rfl⟩
   obtain ⟨x2, hx2⟩ : ∃ x, chkS n.labels = x := ⟨_, rfl⟩
   obtain ⟨x3, hx3⟩ : ∃ x, chkA n.taints = x := ⟨_, rfl⟩
   have HX1 := lH hx1
   have HX2 := lH hx2
   have HX3 := lH hx3
   have HV0 := lH (show chkNod n = if x1 ≠ 0 then x1 else if x2 ≠ 0 then x2 else x3 by unfold chkNod; rw [if_neg (by rw [h1]; decide), hx1, hx2, hx3])
   clear hx1 hx2 hx3 h
   by_cases z1 : x1 = 0
   · subst z1
     by_cases z2 : x2 = 0
     · subst z2
       have HV := lH (show chkNod n = x3 from HV0.out)
       unfold NodV
       go_enter Tryz.func154, Tryz.ntmps154
       go_wp2_with fail
       refine (Vec.rnameR hsz h1).mono ?_
       rintro e w' ⟨rfl, rfl⟩
       go_wp2_with fail
       have K := lH (kept_alloc w (.cells #[.string n.name, v1, v2, v3, .bool n.cordon] 94))
       have hh := w.alloc_heap_new (.cells #[.string n.name, v1, v2, v3, .bool n.cordon] 94)
       have c2 : (w.alloc (.cells #[.string n.name, v1, v2, v3, .bool n.cordon] 94)).cell? ⟨w.heap.size, 2, none⟩ = some v2 := by rw [Lib.cell_of_heap hh]; rfl
       have c3 : (w.alloc (.cells #[.string n.name, v1, v2, v3, .bool n.cordon] 94)).cell? ⟨w.heap.size, 3, none⟩ = some v3 := by rw [Lib.cell_of_heap hh]; rfl
       clear hh
       refine (Vec.refCheckR (HH.out.cap.kept K.out) HX1.out).mono ?_
       rintro e w1 ⟨rfl, k1⟩
       have K := lH (K.out.trans k1)
       have c2 := cell_later k1 c2
       have c3 := cell_later k1 c3
       clear k1
       go_wp2_with fail
       refine (refCheckR (HH.out.labels.kept K.out) HX2.out).mono ?_
       rintro e w2 ⟨rfl, k2⟩
       have K := lH (K.out.trans k2)
       have c2 := cell_later k2 c2
       have c3 := cell_later k2 c3
       clear k2
       go_wp2_with fail
       refine (refCheckAR (HH.out.taints.kept K.out) HX3.out).mono ?_
       rintro e w3 ⟨rfl, k3⟩
       have K := lH (K.out.trans k3)
       clear k3
       go_wp2
       go_ret
       exact ⟨ret_i64 HV.out.symm, K.out⟩
     · have HV := lH (show chkNod n = x2 by rw [HV0.out, if_neg (by decide), if_pos z2])
       have z2' : (x2 != 0) = true := by simpa using z2
       clear z2
       unfold NodV
       go_enter Tryz.func154, Tryz.ntmps154
       go_wp2_with fail
       refine (Vec.rnameR hsz h1).mono ?_
       rintro e w' ⟨rfl, rfl⟩
       go_wp2_with fail
       have K := lH (kept_alloc w (.cells #[.string n.name, v1, v2, v3, .bool n.cordon] 94))
       have hh := w.alloc_heap_new (.cells #[.string n.name, v1, v2, v3, .bool n.cordon] 94)
       have c2 : (w.alloc (.cells #[.string n.name, v1, v2, v3, .bool n.cordon] 94)).cell? ⟨w.heap.size, 2, none⟩ = some v2 := by rw [Lib.cell_of_heap hh]; rfl
       have c3 : (w.alloc (.cells #[.string n.name, v1, v2, v3, .bool n.cordon] 94)).cell? ⟨w.heap.size, 3, none⟩ = some v3 := by rw [Lib.cell_of_heap hh]; rfl
       clear hh
       refine (Vec.refCheckR (HH.out.cap.kept K.out) HX1.out).mono ?_
       rintro e w1 ⟨rfl, k1⟩
       have K := lH (K.out.trans k1)
       have c2 := cell_later k1 c2
       have c3 := cell_later k1 c3
       clear k1
       go_wp2_with fail
       refine (refCheckR (HH.out.labels.kept K.out) HX2.out).mono ?_
       rintro e w2 ⟨rfl, k2⟩
       have K := lH (K.out.trans k2)
       clear k2
       go_wp2
       go_ret
       exact ⟨ret_i64 HV.out.symm, K.out⟩
   · have HV := lH (show chkNod n = x1 by rw [HV0.out, if_pos z1])
     have z1' : (x1 != 0) = true := by simpa using z1
     clear z1
     unfold NodV
     go_enter Tryz.func154, Tryz.ntmps154
     go_wp2_with fail
     refine (Vec.rnameR hsz h1).mono ?_
     rintro e w' ⟨rfl, rfl⟩
     go_wp2_with fail
     have K := lH (kept_alloc w (.cells #[.string n.name, v1, v2, v3, .bool n.cordon] 94))
     have hh := w.alloc_heap_new (.cells #[.string n.name, v1, v2, v3, .bool n.cordon] 94)
     have c2 : (w.alloc (.cells #[.string n.name, v1, v2, v3, .bool n.cordon] 94)).cell? ⟨w.heap.size, 2, none⟩ = some v2 := by rw [Lib.cell_of_heap hh]; rfl
     have c3 : (w.alloc (.cells #[.string n.name, v1, v2, v3, .bool n.cordon] 94)).cell? ⟨w.heap.size, 3, none⟩ = some v3 := by rw [Lib.cell_of_heap hh]; rfl
     clear hh
     refine (Vec.refCheckR (HH.out.cap.kept K.out) HX1.out).mono ?_
     rintro e w1 ⟨rfl, k1⟩
     have K := lH (K.out.trans k1)
     clear k1
     go_wp2
     go_ret
     exact ⟨ret_i64 HV.out.symm, K.out⟩
 · have h1 : isName n.name = false := by simpa using h1
   have HV := lH (show chkNod n = 3 by unfold chkNod; rw [if_pos h1])
   clear h
   unfold NodV
   go_enter Tryz.func154, Tryz.ntmps154
   go_wp2_with (go_at_call 77; refine (Vec.rnameR hsz h1).mono ?_; rintro e w' ⟨rfl, rfl⟩)
   go_ret
   exact ⟨ret_i64 HV.out.symm, kept_alloc _ _⟩
end Go.Proofs.YtfpgekjhcfoohaaGreat
/- The reference's Decimal. -/
namespace Go.Proofs.YtfpgekjhcfoohaaGreat.Vec
open Go.RowKit Go.Proofs.YtfpgekjhcfoohaaGreat
end Go.Proofs.YtfpgekjhcfoohaaGreat.Vec
/- The reference's VecText. -/
namespace Go.Proofs.YtfpgekjhcfoohaaGreat.Vec
open Go.RowKit Go.Proofs.YtfpgekjhcfoohaaGreat
end Go.Proofs.YtfpgekjhcfoohaaGreat.Vec
/- A node in words: the program's, the reference's. -/
namespace Go.Proofs.YtfpgekjhcfoohaaGreat
open Go.RowKit
open Go.RowKit
end Go.Proofs.YtfpgekjhcfoohaaGreat
