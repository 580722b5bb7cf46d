/- Rows of terms, of tolerations alike: slices.Equal, and the reference's loops. -/
import Derived.Test.YtjihpbbeoiddkaaGreatNodA
namespace Go.Proofs.YtjihpbbeoiddkaaGreat
open Go.RowKit
set_option linter.unusedVariables false

/-- Alike, term by term. -/
def sameT : TL → TL → Bool
  | [], [] => true
  | x :: s, y :: t => ((x.1 == y.1) && (eqS x.2.1 y.2.1 && eqS x.2.2 y.2.2)) && sameT s t
  | _, _ => false
theorem sameT_length : ∀ {l l' : TL}, l.length ≠ l'.length → sameT l l' = false
  | [], [], h => absurd rfl h
  | [], _ :: _, _ => rfl
  | _ :: _, [], _ => rfl
  | x :: s, y :: t, h => by rw [sameT, sameT_length (l := s) (l' := t) (fun e => h (by simp [e])), Bool.and_false]
theorem sameT_self : ∀ l : TL, sameT l l = true
  | [] => rfl
  | x :: t => by rw [sameT, sameT_self t, eqS_self, eqS_self]; simp
set_option maxHeartbeats 800000 in
theorem equalO_any (a a' : Option Addr) (len cap len' cap' : Nat) (l l' : NL) (w : World) (hr : RowAt TaLay w a len l) (hr' : RowAt TaLay w a' len' l') :
    Calls Tryz.prog 76 #[.slice a len cap, .slice a' len' cap'] w fun e w' => e = .returned (.bool (sameA l l')) ∧ Kept w w' := by
  have hl := hr.1
  have hm := hr.2.1
  have hl' := hr'.1
  have hm' := hr'.2.1
  unfold maxLen at hm hm'
  by_cases hll : len = len'
  · subst hll
    by_cases h0 : len = 0
    · subst h0
      have HE := Lib.hid (show sameA l l' = true by rw [List.eq_nil_of_length_eq_zero hl, List.eq_nil_of_length_eq_zero hl']; rfl)
      clear hr hl hr' hl'
      go_enter Tryz.func76, Tryz.ntmps76
      go_wp2
      refine wp_loop_rounds 1 ?_
      rw [rounds_succ]
      go_wp2
      go_ret
      exact ⟨ret_bool HE.out.symm, Kept.refl _⟩
    · obtain ⟨b, off, rfl⟩ : ∃ b off, a = some ⟨b, off, none⟩ := hr.form.resolve_left h0
      obtain ⟨b', off', rfl⟩ : ∃ b off, a' = some ⟨b, off, none⟩ := hr'.form.resolve_left h0
      have HR := Lib.hid hr
      have HL := Lib.hid hl
      have HR' := Lib.hid hr'
      have HL' := Lib.hid hl'
      clear hr hl hr' hl' h0
      go_enter Tryz.func76, Tryz.ntmps76
      go_wp2
      go_loopw [13] (fun i wr => ∃ k : Nat, k ≤ len ∧ i = .int .i64 k ∧ sameA (l.drop k) (l'.drop k) = sameA l l' ∧ Kept w wr) (fun i _ => len - (intOf i).toNat)
      case atStart => exact ⟨0, Nat.zero_le _, rfl, rfl, Kept.refl _⟩
      case round =>
        obtain ⟨k, hk, rfl, hrest, hK⟩ := hrel
        have HS := Lib.hid hrest
        have HK := Lib.hid hK
        by_cases hlt : k < len
        · obtain ⟨x, y, m, hx, hd, hb, _, _, c1, c2, c3⟩ := (HR.out.kept hK).tri hlt
          obtain ⟨x9, y9, m9, hx9, hd9, hb9, _, _, d1, d2, d3⟩ := (HR'.out.kept hK).tri hlt
          have HD := Lib.hid hd
          have HD9 := Lib.hid hd9
          clear hrest hK hx hx9 hd hd9
          by_cases e0 : eqS x x9 = true
          · have E0 := Lib.hid e0
            have e0' : (x.toList == x9.toList) = true := e0
            clear e0
            by_cases e1 : eqS y y9 = true
            · have E1 := Lib.hid e1
              have e1' : (y.toList == y9.toList) = true := e1
              clear e1
              by_cases e2 : (m == m9) = true
              · have E2 := Lib.hid e2
                have e2' : (m == m9) = true := e2
                clear e2
                have E := Lib.hid (show sameA (l.drop k) (l'.drop k) = sameA (l.drop (k + 1)) (l'.drop (k + 1)) by rw [HD.out, HD9.out, sameA, E0.out, E1.out, E2.out]; rfl)
                go_wp2
                go_quiet (fail)
                go_wp2
                go_roundw
                case rel => exact ⟨k + 1, by omega, by go_num, E.out.symm.trans HS.out, HK.out.trans (Kept.drewN _ _)⟩
                case measure => simp [intOf]; omega
              · have e2 : (m == m9) = false := by simpa using e2
                have E2 := Lib.hid e2
                have e2' : (m == m9) = false := e2
                clear e2
                have E := Lib.hid (show sameA (l.drop k) (l'.drop k) = false by rw [HD.out, HD9.out, sameA, E0.out, E1.out, E2.out]; rfl)
                go_wp2
                go_quiet (fail)
                go_wp2
                go_ret
                exact ⟨ret_bool (HS.out.symm.trans E.out).symm, HK.out.trans (Kept.drewN _ _)⟩
            · have e1 : eqS y y9 = false := by simpa using e1
              have E1 := Lib.hid e1
              have e1' : (y.toList == y9.toList) = false := e1
              clear e1
              have E := Lib.hid (show sameA (l.drop k) (l'.drop k) = false by rw [HD.out, HD9.out, sameA, E0.out, E1.out]; rfl)
              go_wp2
              go_quiet (fail)
              go_wp2
              go_ret
              exact ⟨ret_bool (HS.out.symm.trans E.out).symm, HK.out.trans (Kept.drewN _ _)⟩
          · have e0 : eqS x x9 = false := by simpa using e0
            have E0 := Lib.hid e0
            have e0' : (x.toList == x9.toList) = false := e0
            clear e0
            have E := Lib.hid (show sameA (l.drop k) (l'.drop k) = false by rw [HD.out, HD9.out, sameA, E0.out]; rfl)
            go_wp2
            go_quiet (fail)
            go_wp2
            go_ret
            exact ⟨ret_bool (HS.out.symm.trans E.out).symm, HK.out.trans (Kept.drewN _ _)⟩
        · have E := Lib.hid (show sameA (l.drop k) (l'.drop k) = true by
            rw [List.drop_of_length_le (by rw [HL.out]; omega), List.drop_of_length_le (by rw [HL'.out]; omega), sameA])
          clear hrest hK
          go_wp2
          go_ret
          exact ⟨ret_bool (HS.out.symm.trans E.out).symm, HK.out⟩
  · have HV := Lib.hid (show sameA l l' = false from sameA_length (by omega))
    clear hr hl hr' hl'
    have hn : ((len : Int) != (len' : Int)) = true := by
      simp only [bne_iff_ne, ne_eq]; omega
    clear hll
    go_enter Tryz.func76, Tryz.ntmps76
    go_wp2
    go_ret
    exact ⟨ret_bool HV.out.symm, Kept.refl _⟩
theorem equalOR {v v' : Value} {l l' : NL} {c : Bool} {w : World} (h : Reads TaLay w v l) (h' : Reads TaLay w v' l') (hc : sameA l l' = c) :
    Calls Tryz.prog 76 #[v, v'] w (Say (.bool c) w) := by
  subst hc
  obtain ⟨a, cap, rfl, _, _, hr⟩ := h
  obtain ⟨a', cap', rfl, _, _, hr'⟩ := h'
  exact equalO_any a a' _ cap _ cap' l l' w hr hr'

set_option maxHeartbeats 800000 in
theorem equalT_any (a a' : Option Addr) (len cap len' cap' : Nat) (l l' : TL) (w : World) (hr : RowAt TermLay w a len l) (hr' : RowAt TermLay w a' len' l') :
    Calls Tryz.prog 75 #[.slice a len cap, .slice a' len' cap'] w fun e w' => e = .returned (.bool (sameT l l')) ∧ Kept w w' := by
  have hl := hr.1
  have hm := hr.2.1
  have hl' := hr'.1
  have hm' := hr'.2.1
  unfold maxLen at hm hm'
  by_cases hll : len = len'
  · subst hll
    by_cases h0 : len = 0
    · subst h0
      have HE := Lib.hid (show sameT l l' = true by rw [List.eq_nil_of_length_eq_zero hl, List.eq_nil_of_length_eq_zero hl']; rfl)
      clear hr hl hr' hl'
      go_enter Tryz.func75, Tryz.ntmps75
      go_wp2
      refine wp_loop_rounds 1 ?_
      rw [rounds_succ]
      go_wp2
      go_ret
      exact ⟨ret_bool HE.out.symm, Kept.refl _⟩
    · obtain ⟨b, off, rfl⟩ : ∃ b off, a = some ⟨b, off, none⟩ := hr.form.resolve_left h0
      obtain ⟨b', off', rfl⟩ : ∃ b off, a' = some ⟨b, off, none⟩ := hr'.form.resolve_left h0
      have HR := Lib.hid hr
      have HL := Lib.hid hl
      have HR' := Lib.hid hr'
      have HL' := Lib.hid hl'
      clear hr hl hr' hl' h0
      go_enter Tryz.func75, Tryz.ntmps75
      go_wp2
      go_loopw [13] (fun i wr => ∃ k : Nat, k ≤ len ∧ i = .int .i64 k ∧ sameT (l.drop k) (l'.drop k) = sameT l l' ∧ Kept w wr) (fun i _ => len - (intOf i).toNat)
      case atStart => exact ⟨0, Nat.zero_le _, rfl, rfl, Kept.refl _⟩
      case round =>
        obtain ⟨k, hk, rfl, hrest, hK⟩ := hrel
        have HS := Lib.hid hrest
        have HK := Lib.hid hK
        by_cases hlt : k < len
        · obtain ⟨o, x, y, hx, hd, hb, _, _, _, c1, c2, c3⟩ := (HR.out.kept hK).term hlt
          obtain ⟨o9, x9, y9, hx9, hd9, hb9, _, _, _, d1, d2, d3⟩ := (HR'.out.kept hK).term hlt
          have HD := Lib.hid hd
          have HD9 := Lib.hid hd9
          clear hrest hK hx hx9 hd hd9
          by_cases e0 : (o == o9) = true
          · have E0 := Lib.hid e0
            have e0' : (o == o9) = true := e0
            clear e0
            by_cases e1 : eqS x x9 = true
            · have E1 := Lib.hid e1
              have e1' : (x.toList == x9.toList) = true := e1
              clear e1
              by_cases e2 : eqS y y9 = true
              · have E2 := Lib.hid e2
                have e2' : (y.toList == y9.toList) = true := e2
                clear e2
                have E := Lib.hid (show sameT (l.drop k) (l'.drop k) = sameT (l.drop (k + 1)) (l'.drop (k + 1)) by rw [HD.out, HD9.out, sameT, E0.out, E1.out, E2.out]; rfl)
                go_wp2
                go_quiet (fail)
                go_wp2
                go_roundw
                case rel => exact ⟨k + 1, by omega, by go_num, E.out.symm.trans HS.out, HK.out.trans (Kept.drewN _ _)⟩
                case measure => simp [intOf]; omega
              · have e2 : eqS y y9 = false := by simpa using e2
                have E2 := Lib.hid e2
                have e2' : (y.toList == y9.toList) = false := e2
                clear e2
                have E := Lib.hid (show sameT (l.drop k) (l'.drop k) = false by rw [HD.out, HD9.out, sameT, E0.out, E1.out, E2.out]; rfl)
                go_wp2
                go_quiet (fail)
                go_wp2
                go_ret
                exact ⟨ret_bool (HS.out.symm.trans E.out).symm, HK.out.trans (Kept.drewN _ _)⟩
            · have e1 : eqS x x9 = false := by simpa using e1
              have E1 := Lib.hid e1
              have e1' : (x.toList == x9.toList) = false := e1
              clear e1
              have E := Lib.hid (show sameT (l.drop k) (l'.drop k) = false by rw [HD.out, HD9.out, sameT, E0.out, E1.out]; rfl)
              go_wp2
              go_quiet (fail)
              go_wp2
              go_ret
              exact ⟨ret_bool (HS.out.symm.trans E.out).symm, HK.out.trans (Kept.drewN _ _)⟩
          · have e0 : (o == o9) = false := by simpa using e0
            have E0 := Lib.hid e0
            have e0' : (o == o9) = false := e0
            clear e0
            have E := Lib.hid (show sameT (l.drop k) (l'.drop k) = false by rw [HD.out, HD9.out, sameT, E0.out]; rfl)
            go_wp2
            go_quiet (fail)
            go_wp2
            go_ret
            exact ⟨ret_bool (HS.out.symm.trans E.out).symm, HK.out.trans (Kept.drewN _ _)⟩
        · have E := Lib.hid (show sameT (l.drop k) (l'.drop k) = true by
            rw [List.drop_of_length_le (by rw [HL.out]; omega), List.drop_of_length_le (by rw [HL'.out]; omega), sameT])
          clear hrest hK
          go_wp2
          go_ret
          exact ⟨ret_bool (HS.out.symm.trans E.out).symm, HK.out⟩
  · have HV := Lib.hid (show sameT l l' = false from sameT_length (by omega))
    clear hr hl hr' hl'
    have hn : ((len : Int) != (len' : Int)) = true := by
      simp only [bne_iff_ne, ne_eq]; omega
    clear hll
    go_enter Tryz.func75, Tryz.ntmps75
    go_wp2
    go_ret
    exact ⟨ret_bool HV.out.symm, Kept.refl _⟩
theorem equalTR {v v' : Value} {l l' : TL} {c : Bool} {w : World} (h : Reads TermLay w v l) (h' : Reads TermLay w v' l') (hc : sameT l l' = c) :
    Calls Tryz.prog 75 #[v, v'] w (Say (.bool c) w) := by
  subst hc
  obtain ⟨a, cap, rfl, _, _, hr⟩ := h
  obtain ⟨a', cap', rfl, _, _, hr'⟩ := h'
  exact equalT_any a a' _ cap _ cap' l l' w hr hr'

set_option maxHeartbeats 800000 in
theorem rsameO_any (a a' : Option Addr) (len cap len' cap' : Nat) (l l' : NL) (w : World) (hr : RowAt TaLay w a len l) (hr' : RowAt TaLay w a' len' l') :
    Calls Tryz.prog 101 #[.slice a len cap, .slice a' len' cap'] w fun e w' => e = .returned (.bool (sameA l l')) ∧ Kept w w' := by
  have hl := hr.1
  have hm := hr.2.1
  have hl' := hr'.1
  have hm' := hr'.2.1
  unfold maxLen at hm hm'
  by_cases hll : len = len'
  · subst hll
    by_cases h0 : len = 0
    · subst h0
      have HE := Lib.hid (show sameA l l' = true by rw [List.eq_nil_of_length_eq_zero hl, List.eq_nil_of_length_eq_zero hl']; rfl)
      clear hr hl hr' hl'
      go_enter Tryz.func101, Tryz.ntmps101
      go_wp2
      refine wp_loop_rounds 1 ?_
      rw [rounds_succ]
      go_wp2
      go_ret
      exact ⟨ret_bool HE.out.symm, Kept.refl _⟩
    · obtain ⟨b, off, rfl⟩ : ∃ b off, a = some ⟨b, off, none⟩ := hr.form.resolve_left h0
      obtain ⟨b', off', rfl⟩ : ∃ b off, a' = some ⟨b, off, none⟩ := hr'.form.resolve_left h0
      have HR := Lib.hid hr
      have HL := Lib.hid hl
      have HR' := Lib.hid hr'
      have HL' := Lib.hid hl'
      clear hr hl hr' hl' h0
      go_enter Tryz.func101, Tryz.ntmps101
      go_wp2
      go_loopw [5] (fun i wr => ∃ k : Nat, k ≤ len ∧ i = .int .i64 k ∧ sameA (l.drop k) (l'.drop k) = sameA l l' ∧ Kept w wr) (fun i _ => len - (intOf i).toNat)
      case atStart => exact ⟨0, Nat.zero_le _, rfl, rfl, Kept.refl _⟩
      case round =>
        obtain ⟨k, hk, rfl, hrest, hK⟩ := hrel
        have HS := Lib.hid hrest
        have HK := Lib.hid hK
        by_cases hlt : k < len
        · obtain ⟨x, y, m, hx, hd, hb, _, _, c1, c2, c3⟩ := (HR.out.kept hK).tri hlt
          obtain ⟨x9, y9, m9, hx9, hd9, hb9, _, _, d1, d2, d3⟩ := (HR'.out.kept hK).tri hlt
          have HD := Lib.hid hd
          have HD9 := Lib.hid hd9
          clear hrest hK hx hx9 hd hd9
          by_cases e0 : eqS x x9 = true
          · have E0 := Lib.hid e0
            have e0' : (x.toList == x9.toList) = true := e0
            clear e0
            by_cases e1 : eqS y y9 = true
            · have E1 := Lib.hid e1
              have e1' : (y.toList == y9.toList) = true := e1
              clear e1
              by_cases e2 : (m == m9) = true
              · have E2 := Lib.hid e2
                have e2' : (m == m9) = true := e2
                clear e2
                have E := Lib.hid (show sameA (l.drop k) (l'.drop k) = sameA (l.drop (k + 1)) (l'.drop (k + 1)) by rw [HD.out, HD9.out, sameA, E0.out, E1.out, E2.out]; rfl)
                go_wp2
                go_quiet (fail)
                go_wp2
                go_roundw
                case rel => exact ⟨k + 1, by omega, by go_num, E.out.symm.trans HS.out, HK.out.trans (Kept.drewN _ _)⟩
                case measure => simp [intOf]; omega
              · have e2 : (m == m9) = false := by simpa using e2
                have E2 := Lib.hid e2
                have e2' : (m == m9) = false := e2
                clear e2
                have E := Lib.hid (show sameA (l.drop k) (l'.drop k) = false by rw [HD.out, HD9.out, sameA, E0.out, E1.out, E2.out]; rfl)
                go_wp2
                go_quiet (fail)
                go_wp2
                go_ret
                exact ⟨ret_bool (HS.out.symm.trans E.out).symm, HK.out.trans (Kept.drewN _ _)⟩
            · have e1 : eqS y y9 = false := by simpa using e1
              have E1 := Lib.hid e1
              have e1' : (y.toList == y9.toList) = false := e1
              clear e1
              have E := Lib.hid (show sameA (l.drop k) (l'.drop k) = false by rw [HD.out, HD9.out, sameA, E0.out, E1.out]; rfl)
              go_wp2
              go_quiet (fail)
              go_wp2
              go_ret
              exact ⟨ret_bool (HS.out.symm.trans E.out).symm, HK.out.trans (Kept.drewN _ _)⟩
          · have e0 : eqS x x9 = false := by simpa using e0
            have E0 := Lib.hid e0
            have e0' : (x.toList == x9.toList) = false := e0
            clear e0
            have E := Lib.hid (show sameA (l.drop k) (l'.drop k) = false by rw [HD.out, HD9.out, sameA, E0.out]; rfl)
            go_wp2
            go_quiet (fail)
            go_wp2
            go_ret
            exact ⟨ret_bool (HS.out.symm.trans E.out).symm, HK.out.trans (Kept.drewN _ _)⟩
        · have E := Lib.hid (show sameA (l.drop k) (l'.drop k) = true by
            rw [List.drop_of_length_le (by rw [HL.out]; omega), List.drop_of_length_le (by rw [HL'.out]; omega), sameA])
          clear hrest hK
          go_wp2
          go_ret
          exact ⟨ret_bool (HS.out.symm.trans E.out).symm, HK.out⟩
  · have HV := Lib.hid (show sameA l l' = false from sameA_length (by omega))
    clear hr hl hr' hl'
    have hn : ((len : Int) != (len' : Int)) = true := by
      simp only [bne_iff_ne, ne_eq]; omega
    clear hll
    go_enter Tryz.func101, Tryz.ntmps101
    go_wp2
    go_ret
    exact ⟨ret_bool HV.out.symm, Kept.refl _⟩
theorem rsameOR {v v' : Value} {l l' : NL} {c : Bool} {w : World} (h : Reads TaLay w v l) (h' : Reads TaLay w v' l') (hc : sameA l l' = c) :
    Calls Tryz.prog 101 #[v, v'] w (Say (.bool c) w) := by
  subst hc
  obtain ⟨a, cap, rfl, _, _, hr⟩ := h
  obtain ⟨a', cap', rfl, _, _, hr'⟩ := h'
  exact rsameO_any a a' _ cap _ cap' l l' w hr hr'

set_option maxHeartbeats 800000 in
theorem rsameT_any (a a' : Option Addr) (len cap len' cap' : Nat) (l l' : TL) (w : World) (hr : RowAt TermLay w a len l) (hr' : RowAt TermLay w a' len' l') :
    Calls Tryz.prog 43 #[.slice a len cap, .slice a' len' cap'] w fun e w' => e = .returned (.bool (sameT l l')) ∧ Kept w w' := by
  have hl := hr.1
  have hm := hr.2.1
  have hl' := hr'.1
  have hm' := hr'.2.1
  unfold maxLen at hm hm'
  by_cases hll : len = len'
  · subst hll
    by_cases h0 : len = 0
    · subst h0
      have HE := Lib.hid (show sameT l l' = true by rw [List.eq_nil_of_length_eq_zero hl, List.eq_nil_of_length_eq_zero hl']; rfl)
      clear hr hl hr' hl'
      go_enter Tryz.func43, Tryz.ntmps43
      go_wp2
      refine wp_loop_rounds 1 ?_
      rw [rounds_succ]
      go_wp2
      go_ret
      exact ⟨ret_bool HE.out.symm, Kept.refl _⟩
    · obtain ⟨b, off, rfl⟩ : ∃ b off, a = some ⟨b, off, none⟩ := hr.form.resolve_left h0
      obtain ⟨b', off', rfl⟩ : ∃ b off, a' = some ⟨b, off, none⟩ := hr'.form.resolve_left h0
      have HR := Lib.hid hr
      have HL := Lib.hid hl
      have HR' := Lib.hid hr'
      have HL' := Lib.hid hl'
      clear hr hl hr' hl' h0
      go_enter Tryz.func43, Tryz.ntmps43
      go_wp2
      go_loopw [5] (fun i wr => ∃ k : Nat, k ≤ len ∧ i = .int .i64 k ∧ sameT (l.drop k) (l'.drop k) = sameT l l' ∧ Kept w wr) (fun i _ => len - (intOf i).toNat)
      case atStart => exact ⟨0, Nat.zero_le _, rfl, rfl, Kept.refl _⟩
      case round =>
        obtain ⟨k, hk, rfl, hrest, hK⟩ := hrel
        have HS := Lib.hid hrest
        have HK := Lib.hid hK
        by_cases hlt : k < len
        · obtain ⟨o, x, y, hx, hd, hb, _, _, _, c1, c2, c3⟩ := (HR.out.kept hK).term hlt
          obtain ⟨o9, x9, y9, hx9, hd9, hb9, _, _, _, d1, d2, d3⟩ := (HR'.out.kept hK).term hlt
          have HD := Lib.hid hd
          have HD9 := Lib.hid hd9
          clear hrest hK hx hx9 hd hd9
          by_cases e0 : (o == o9) = true
          · have E0 := Lib.hid e0
            have e0' : (o == o9) = true := e0
            clear e0
            by_cases e1 : eqS x x9 = true
            · have E1 := Lib.hid e1
              have e1' : (x.toList == x9.toList) = true := e1
              clear e1
              by_cases e2 : eqS y y9 = true
              · have E2 := Lib.hid e2
                have e2' : (y.toList == y9.toList) = true := e2
                clear e2
                have E := Lib.hid (show sameT (l.drop k) (l'.drop k) = sameT (l.drop (k + 1)) (l'.drop (k + 1)) by rw [HD.out, HD9.out, sameT, E0.out, E1.out, E2.out]; rfl)
                go_wp2
                go_quiet (fail)
                go_wp2
                go_roundw
                case rel => exact ⟨k + 1, by omega, by go_num, E.out.symm.trans HS.out, HK.out.trans (Kept.drewN _ _)⟩
                case measure => simp [intOf]; omega
              · have e2 : eqS y y9 = false := by simpa using e2
                have E2 := Lib.hid e2
                have e2' : (y.toList == y9.toList) = false := e2
                clear e2
                have E := Lib.hid (show sameT (l.drop k) (l'.drop k) = false by rw [HD.out, HD9.out, sameT, E0.out, E1.out, E2.out]; rfl)
                go_wp2
                go_quiet (fail)
                go_wp2
                go_ret
                exact ⟨ret_bool (HS.out.symm.trans E.out).symm, HK.out.trans (Kept.drewN _ _)⟩
            · have e1 : eqS x x9 = false := by simpa using e1
              have E1 := Lib.hid e1
              have e1' : (x.toList == x9.toList) = false := e1
              clear e1
              have E := Lib.hid (show sameT (l.drop k) (l'.drop k) = false by rw [HD.out, HD9.out, sameT, E0.out, E1.out]; rfl)
              go_wp2
              go_quiet (fail)
              go_wp2
              go_ret
              exact ⟨ret_bool (HS.out.symm.trans E.out).symm, HK.out.trans (Kept.drewN _ _)⟩
          · have e0 : (o == o9) = false := by simpa using e0
            have E0 := Lib.hid e0
            have e0' : (o == o9) = false := e0
            clear e0
            have E := Lib.hid (show sameT (l.drop k) (l'.drop k) = false by rw [HD.out, HD9.out, sameT, E0.out]; rfl)
            go_wp2
            go_quiet (fail)
            go_wp2
            go_ret
            exact ⟨ret_bool (HS.out.symm.trans E.out).symm, HK.out.trans (Kept.drewN _ _)⟩
        · have E := Lib.hid (show sameT (l.drop k) (l'.drop k) = true by
            rw [List.drop_of_length_le (by rw [HL.out]; omega), List.drop_of_length_le (by rw [HL'.out]; omega), sameT])
          clear hrest hK
          go_wp2
          go_ret
          exact ⟨ret_bool (HS.out.symm.trans E.out).symm, HK.out⟩
  · have HV := Lib.hid (show sameT l l' = false from sameT_length (by omega))
    clear hr hl hr' hl'
    have hn : ((len : Int) != (len' : Int)) = true := by
      simp only [bne_iff_ne, ne_eq]; omega
    clear hll
    go_enter Tryz.func43, Tryz.ntmps43
    go_wp2
    go_ret
    exact ⟨ret_bool HV.out.symm, Kept.refl _⟩
theorem rsameTR {v v' : Value} {l l' : TL} {c : Bool} {w : World} (h : Reads TermLay w v l) (h' : Reads TermLay w v' l') (hc : sameT l l' = c) :
    Calls Tryz.prog 43 #[v, v'] w (Say (.bool c) w) := by
  subst hc
  obtain ⟨a, cap, rfl, _, _, hr⟩ := h
  obtain ⟨a', cap', rfl, _, _, hr'⟩ := h'
  exact rsameT_any a a' _ cap _ cap' l l' w hr hr'

end Go.Proofs.YtjihpbbeoiddkaaGreat
