/- Two vectors merged name by name by qty's Sub. -/
import Derived.Test.YtnnneimpdiadhaaDoorResMergeMath
namespace Go.Proofs.YtnnneimpdiadhaaDoor.Vec
open Go.RowKit
set_option linter.unusedVariables false

theorem qsub_f (x y : Int) (w : World) (h0 : 0 ≤ x) (h1 : x ≤ 9223372036854775807) (h2 : 0 ≤ y) (h3 : y ≤ 9223372036854775807) :
    Calls Tryd.prog 28 #[.int .i64 x, .int .i64 y] w (Ans (subF x y).1 (subF x y).2 w) := by
  by_cases h : y ≤ x
  · have e : subF x y = (x - y, 0) := by unfold subF; rw [if_pos h]
    rw [e]; exact (sub_ok x y w h2 h1 h).mono fun _ _ g => g.ans
  · have e : subF x y = (0, 5) := by unfold subF; rw [if_neg h]
    rw [e]; exact (sub_over x y w h0 h3 (by omega)).mono fun _ _ g => g.ans

set_option maxHeartbeats 1600000 in
theorem merged_sub (a a' : Option Addr) (len cap len' cap' : Nat) (l l' : V) (w : World) (hr : VecAt w a len l) (hr' : VecAt w a' len' l') (hc : len ≤ cap) (hm : cap ≤ maxLen) (hc' : len' ≤ cap') (hm' : cap' ≤ maxLen) :
    Calls Tryd.prog 24 #[.slice a len cap, .slice a' len' cap', .func (.func 28) #[] #[]] w (VecRes (mergedV subF l l') w.heap.size w) := by
  by_cases h1 : checkV l = 0
  · by_cases h2 : checkV l' = 0
    · have HL := Lib.hid hr.1
      have HL' := Lib.hid hr'.1
      have P1 := Lib.hid (check_pos h1 hr.2.2.1)
      have P2 := Lib.hid (check_pos h2 hr'.2.2.1)
      have n8 : len ≤ 8 := by have := check_len h1; rw [hr.1] at this; exact this
      have n8' : len' ≤ 8 := by have := check_len h2; rw [hr'.1] at this; exact this
      obtain ⟨R, hR⟩ : ∃ R, mergeAcc subF (l.length + l'.length) l l' [] = R := ⟨_, rfl⟩
      have HM := Lib.hid (show mergedV subF l l' = if R.1 ≠ 0 then (R.1, []) else if 8 < R.2.length then (4, []) else (0, R.2) by
        unfold mergedV; rw [if_neg (by rw [h1]; decide), if_neg (by rw [h2]; decide)]; dsimp only; rw [hR])
      have HR := Lib.hid hR
      have H1 := Lib.hid h1
      have H2 := Lib.hid h2
      have HA := Lib.hid hr
      have HB := Lib.hid hr'
      clear hR h1 h2 hr hr'
      go_enter Tryd.func24, Tryd.ntmps24
      go_wp2_with fail
      refine (checked_any _ _ _ l _ HA.out).mono ?_
      rintro e1 w1 ⟨g1, _, k1⟩
      obtain rfl := g1 H1.out
      have K1 := Lib.hid k1
      clear g1 k1
      go_wp2_with fail
      refine (checked_any _ _ _ l' _ (HB.out.kept K1.out)).mono ?_
      rintro e2 w2 ⟨g2, _, k2⟩
      obtain rfl := g2 H2.out
      have K2 := Lib.hid (K1.out.trans k2)
      clear g2 k2
      go_wp2
      go_loopw [0, 1, 7] (fun va vb v wr => ∃ (A B : Option Addr) (n c n' c' : Nat) (la lb acc : V) (fuel : Nat), va = .slice A n c ∧ vb = .slice B n' c' ∧ n ≤ c ∧ c ≤ maxLen ∧ n' ≤ c' ∧ c' ≤ maxLen ∧
          VecAt w A n la ∧ VecAt w B n' lb ∧ Pos la ∧ Pos lb ∧ OwnV 38 wr w.heap.size v acc ∧ Below w.heap.size w wr ∧ n + n' ≤ fuel ∧ mergeAcc subF fuel la lb acc = R ∧ acc.length + n + n' ≤ 16)
        (fun va vb _ _ => lenOf va + lenOf vb)
      case atStart =>
        exact ⟨a, a', len, cap, len', cap', l, l', [], l.length + l'.length, rfl, rfl, hc, hm, hc', hm', HA.out, HB.out, P1.out, P2.out, OwnV.nil _ _ _, K2.out, by rw [HL.out, HL'.out]; exact Nat.le_refl _, HR.out, by simp; omega⟩
      case round =>
        obtain ⟨A, B, n, c, n', c', la, lb, acc, fuel, rfl, rfl, c1, c2, c3, c4, va1, vb1, pa, pb, ho, hB, hfuel, hres, h16⟩ := hrel
        have VA := Lib.hid va1
        have VB := Lib.hid vb1
        have PA := Lib.hid pa
        have PB := Lib.hid pb
        have HO := Lib.hid ho
        have HB2 := Lib.hid hB
        have HQ := Lib.hid hres
        have LA := Lib.hid va1.1
        have LB := Lib.hid vb1.1
        clear va1 vb1 pa pb ho hB hres
        by_cases hz : n + n' = 0
        · obtain rfl : n = 0 := by omega
          obtain rfl : n' = 0 := by omega
          clear hz
          obtain ⟨av, cv, rfl, g1, g2, g3⟩ := HO.out.at_
          have HE := Lib.hid (show R = (0, acc) from HQ.out.symm.trans (merge_end (by rw [LA.out, LB.out])))
          have hal : acc.length ≤ 9223372036854775807 := by omega
          clear g3 g1 g2
          by_cases h8 : acc.length ≤ 8
          · have HF := Lib.hid (show mergedV subF l l' = (0, acc) by rw [HM.out, HE.out]; dsimp only; rw [if_neg (by decide), if_neg (by omega)])
            go_wp2_with fail
            refine (long_ok _ _ _ _ h8).mono ?_
            rintro e3 w3 ⟨rfl, rfl⟩
            go_wp2
            go_ret
            exact VecRes.good (by rw [HF.out]) (by rw [HF.out]; exact HO.out) HB2.out
          · have HF := Lib.hid (show mergedV subF l l' = (4, []) by rw [HM.out, HE.out]; dsimp only; rw [if_neg (by decide), if_pos (by omega)])
            go_wp2_with fail
            refine (long_bad _ _ _ _ (by omega) hal).mono ?_
            rintro e3 w3 ⟨rfl, rfl⟩
            go_wp2
            exact ⟨rfl, VecRes.bad (by rw [HF.out]) (by decide) HB2.out⟩
        · have hpos : 0 < n + n' := by omega
          clear hz
          have HP := Lib.hid (show 0 < la.length + lb.length by rw [LA.out, LB.out]; exact hpos)
          have HU := Lib.hid (show la.length + lb.length ≤ fuel by rw [LA.out, LB.out]; exact hfuel)
          have HS := Lib.hid (foremost_size PA.out PB.out)
          have T1 := Lib.hid (taken_pos PA.out (foremostV la lb))
          have T2 := Lib.hid (taken_pos PB.out (foremostV la lb))
          have HLESS := Lib.hid (merge_less HP.out)
          obtain ⟨r1, r2, hr⟩ : ∃ r1 r2, subF (takenV la (foremostV la lb)).1 (takenV lb (foremostV la lb)).1 = (r1, r2) := ⟨_, _, rfl⟩
          have QF := Lib.hid (show ∀ W, Calls Tryd.prog 28 #[.int .i64 (takenV la (foremostV la lb)).1, .int .i64 (takenV lb (foremostV la lb)).1] W (Ans r1 r2 W) from fun W => by
            have := qsub_f _ _ W T1.out.1.1 T1.out.1.2 T2.out.1.1 T2.out.1.2
            rw [hr] at this
            exact this)
          have HRR := Lib.hid hr
          have RB := Lib.hid (show 0 ≤ r1 ∧ r1 ≤ 9223372036854775807 by have := subF_bd (T1.out.1) (T2.out.1); rw [hr] at this; exact this)
          clear hr
          have hd : (decide (0 < n) || decide (0 < n')) = true := by simp; omega
          rcases Nat.eq_zero_or_pos n with h0 | h0
          case' inl => (have d2 : decide (0 < n') = true := by simp; omega)
          case' inl => (subst h0)
          case' inr => (have d1 : decide (0 < n) = true := by simp; omega)
          all_goals
            clear hd
            go_wp2_with fail
            refine (foremost_any _ _ _ _ _ _ la lb _ (VA.out.kept HB2.out) (VB.out.kept HB2.out) (by omega)).mono ?_
            rintro e3 w3 ⟨rfl, k3⟩
            have K3 := Lib.hid k3
            clear k3
            go_wp2_with fail
            refine (taken_any _ _ _ la _ _ ((VA.out.kept HB2.out).kept K3.out) c1 c2).mono ?_
            rintro e4 w4 ⟨A4, c4', rfl, q1, q2, V4, k4⟩
            have K4 := Lib.hid (K3.out.trans k4)
            have HV4 := Lib.hid V4
            clear k4 V4
            go_wp2_with fail
            refine (taken_any _ _ _ lb _ _ ((VB.out.kept HB2.out).kept K4.out) c3 c4).mono ?_
            rintro e5 w5 ⟨A5, c5', rfl, q3, q4, V5, k5⟩
            have K5 := Lib.hid (K4.out.trans k5)
            have HV5 := Lib.hid V5
            clear k5 V5
            go_wp2_with fail
            refine (QF.out _).mono ?_
            rintro e6 w6 ⟨rfl, k6⟩
            have K6 := Lib.hid (K5.out.trans k6)
            clear k6
            by_cases hx : r2 = 0
            · subst hx
              go_wp2_with fail
              refine (sound_ok _ _).mono ?_
              rintro e7 w7 ⟨rfl, rfl⟩
              obtain ⟨fuel', hf1, hf2⟩ := merge_next (f := subF) (acc := acc) HP.out HU.out (by rw [HRR.out])
              have HF1 := Lib.hid hf1
              have HF2 := Lib.hid hf2
              clear hf1 hf2
              have HBB := Lib.hid (show Below w.heap.size w w6 from HB2.out.trans (Below.mono K6.out HB2.out.size))
              by_cases hy : r1 = 0
              · subst hy
                go_wp2_with fail
                refine (with_zero _ _ _).mono ?_
                rintro e8 w8 ⟨rfl, rfl⟩
                go_wp2
                go_roundw
                case rel =>
                  refine ⟨A4, A5, _, c4', _, c5', _, _, acc, fuel', rfl, rfl, q1, q2, q3, q4, HV4.out w VA.out, HV5.out w VB.out, T1.out.2, T2.out.2, HO.out.kept K6.out, HBB.out, ?_, ?_, ?_⟩
                  · have := HLESS.out; have := HU.out; have := HF1.out; omega
                  · have := HF2.out; rw [HRR.out] at this; rw [← HQ.out, this]; rfl
                  · have := HLESS.out; have := LA.out; have := LB.out; omega
                case measure => (show lenOf (Value.slice _ _ _) + lenOf (Value.slice _ _ _) < lenOf (Value.slice _ _ _) + lenOf (Value.slice _ _ _); simp only [lenOf]; have := HLESS.out; have := LA.out; have := LB.out; omega)
              · go_wp2_with fail
                refine (with_more _ _ r1 w.heap.size acc _ (HO.out.kept K6.out) hy HS.out (by have := RB.out; omega) (by have := RB.out; omega) (by omega) HBB.out.size).mono ?_
                rintro e8 w8 ⟨v8, rfl, o8, b8⟩
                have O8 := Lib.hid o8
                have B8 := Lib.hid b8
                have HY := Lib.hid hy
                clear o8 b8 hy
                go_wp2
                go_roundw
                case rel =>
                  refine ⟨A4, A5, _, c4', _, c5', _, _, _, fuel', rfl, rfl, q1, q2, q3, q4, HV4.out w VA.out, HV5.out w VB.out, T1.out.2, T2.out.2, O8.out, HBB.out.trans B8.out, ?_, ?_, ?_⟩
                  · have := HLESS.out; have := HU.out; have := HF1.out; omega
                  · have := HF2.out; rw [HRR.out] at this; rw [← HQ.out, this]; dsimp only; unfold plusV; rw [if_neg HY.out]
                  · have := HLESS.out; have := LA.out; have := LB.out; rw [List.length_append]; simp only [List.length_cons, List.length_nil]; omega
                case measure => (show lenOf (Value.slice _ _ _) + lenOf (Value.slice _ _ _) < lenOf (Value.slice _ _ _) + lenOf (Value.slice _ _ _); simp only [lenOf]; have := HLESS.out; have := LA.out; have := LB.out; omega)
            · have HX := Lib.hid hx
              have HE := Lib.hid (show mergedV subF l l' = (r2, []) by
                rw [HM.out, ← HQ.out, merge_bad HP.out HU.out (by rw [HRR.out]; exact hx), HRR.out]; dsimp only; rw [if_pos hx])
              go_wp2_with fail
              refine (sound_bad _ _ _ hx).mono ?_
              rintro e7 w7 ⟨rfl, rfl⟩
              clear hx
              go_wp2
              exact ⟨rfl, VecRes.bad (by rw [HE.out]) HX.out (HB2.out.trans (Below.mono K6.out HB2.out.size))⟩
    · have HM := Lib.hid (show mergedV subF l l' = (checkV l', []) by unfold mergedV; rw [if_neg (by rw [h1]; decide), if_pos h2])
      have HA := Lib.hid hr
      have HB := Lib.hid hr'
      have H1 := Lib.hid h1
      have H2 := Lib.hid h2
      clear h1 h2 hr hr'
      go_enter Tryd.func24, Tryd.ntmps24
      go_wp2_with fail
      refine (checked_any _ _ _ l _ HA.out).mono ?_
      rintro e1 w1 ⟨g1, _, k1⟩
      obtain rfl := g1 H1.out
      have K1 := Lib.hid k1
      clear g1 k1
      go_wp2_with fail
      refine (checked_any _ _ _ l' _ (HB.out.kept K1.out)).mono ?_
      rintro e2 w2 ⟨_, g2, k2⟩
      obtain rfl := g2 H2.out
      have K2 := Lib.hid (K1.out.trans k2)
      clear g2 k2
      go_wp2
      exact ⟨rfl, VecRes.bad (by rw [HM.out]) H2.out K2.out⟩
  · have HM := Lib.hid (show mergedV subF l l' = (checkV l, []) by unfold mergedV; rw [if_pos h1])
    have HA := Lib.hid hr
    have H1 := Lib.hid h1
    clear h1 hr hr'
    go_enter Tryd.func24, Tryd.ntmps24
    go_wp2_with fail
    refine (checked_any _ _ _ l _ HA.out).mono ?_
    rintro e1 w1 ⟨_, g1, k1⟩
    obtain rfl := g1 H1.out
    have K1 := Lib.hid k1
    clear g1 k1
    go_wp2
    exact ⟨rfl, VecRes.bad (by rw [HM.out]) H1.out K1.out⟩

end Go.Proofs.YtnnneimpdiadhaaDoor.Vec
