/- LabelWords: the walk. -/
import Derived.Test.YtmmjcomoabfmnaaDoorLabKnown
import Derived.Test.YtmmjcomoabfmnaaDoorLabOf
import Derived.Test.YtmmjcomoabfmnaaDoorLabSame
import Derived.Test.YtmmjcomoabfmnaaDoorLabBack
namespace Go.Proofs.YtmmjcomoabfmnaaDoor
open Go.RowKit
set_option linter.unusedVariables false

theorem ofS {v : Value} {l : PL} {w : World} (h : Reads PairLay w v l) (hf : l.length ≤ 1000000) :
    Calls Tryd.prog 11 #[v] w (fun e w' => ∃ x, e = .returned x ∧ Reads PairLay w' x l ∧ Kept w w') := by
  obtain ⟨a, cap, rfl, h1, h2, h3⟩ := h
  exact of_any a _ cap l w h3 hf
theorem ofSelS {v : Value} {l : TL} {w : World} (h : Reads TermLay w v l) (hf : l.length ≤ 1000000) :
    Calls Tryd.prog 12 #[v] w (fun e w' => ∃ x, e = .returned x ∧ Reads TermLay w' x l ∧ Kept w w') := by
  obtain ⟨a, cap, rfl, h1, h2, h3⟩ := h
  exact ofSel_any a _ cap l w h3 hf

set_option maxRecDepth 100000 in
set_option maxHeartbeats 4000000 in
theorem LabelWords_walk (s0 : ByteArray) (w : World) (hE : Env w) (hs0 : s0.size ≤ maxLen) :
    Calls Tryd.prog 4 #[.string s0] w fun e w' => e = .returned (.bool true) ∧ Kept w w' := by
  obtain ⟨s, rfl⟩ : ∃ s, s0 = bytes s := ⟨_, (bytes_data s0).symm⟩
  have hsz : (bytes s).size = s.length := bytes_size s
  unfold maxLen at hs0
  have HK := Lib.hid (known_any w hE)
  have HE := Lib.hid hE
  clear hE
  by_cases h300 : s.length ≤ 300
  · obtain ⟨c1, l1, hp⟩ : ∃ c l, parsedP s = (c, l) := ⟨_, _, rfl⟩
    obtain ⟨c2, l2, ht⟩ : ∃ c l, parsedT s = (c, l) := ⟨_, _, rfl⟩
    have HPP := Lib.hid hp
    have HPT := Lib.hid ht
    have hl1 : l1.length ≤ 9 := by have := parsedG_len (bad := pairBad) (f := pairL) (chk := chkS) s; have e : parsedG pairBad pairL chkS s = (c1, l1) := hp; rw [e] at this; exact this
    have hl2 : l2.length ≤ 9 := by have := parsedG_len (bad := termBad) (f := termL) (chk := chkL) s; have e : parsedG termBad termL chkL s = (c2, l2) := ht; rw [e] at this; exact this
    have HM1 := Lib.hid (parsedP_mid (s := s) (by omega))
    have HM2 := Lib.hid (parsedT_mid (s := s) (by omega))
    rw [hp] at HM1
    rw [ht] at HM2
    have HRP := Lib.hid (fun W => refParseSet_any s W (by omega))
    have HRT := Lib.hid (fun W => refParseSel_any s W (by omega))
    simp only [hp] at HRP
    simp only [ht] at HRT
    have HB1 := Lib.hid (fun h : (parsedP s).1 = 0 => text_back h)
    have HB2 := Lib.hid (fun h : (parsedT s).1 = 0 => selText_back h)
    rw [hp] at HB1
    rw [ht] at HB2
    have hbb : ((bytes s).toList == (bytes s).toList) = true := beq_self_eq_true _
    clear hp ht
    by_cases z1 : c1 = 0
    · subst z1
      by_cases z2 : c2 = 0
      · subst z2
        go_enter Tryd.func4, Tryd.ntmps4
        go_wp2_with fail
        refine (HK.out).mono ?_
        rintro e w1 ⟨rfl, k⟩
        have K := Lib.hid k
        clear k
        go_wp2_with fail
        refine (parseR (HE.out.kept K.out) (by omega) HPP.out).mono ?_
        rintro e w2 ⟨va, rfl, r, k⟩
        have K := Lib.hid (K.out.trans k)
        have RA := Lib.hid r
        clear r
        clear k
        go_wp2_with fail
        refine (HRP.out _).mono ?_
        rintro e w3 ⟨vb, rfl, r, k⟩
        have K := Lib.hid (K.out.trans k)
        have RA := Lib.hid (RA.out.kept k)
        have RB := Lib.hid r
        clear r
        clear k
        go_wp2_with fail
        refine (parseSelR (HE.out.kept K.out) (by omega) HPT.out).mono ?_
        rintro e w4 ⟨vx, rfl, r, k⟩
        have K := Lib.hid (K.out.trans k)
        have RA := Lib.hid (RA.out.kept k)
        have RB := Lib.hid (RB.out.kept k)
        have RX := Lib.hid r
        clear r
        clear k
        go_wp2_with fail
        refine (HRT.out _).mono ?_
        rintro e w5 ⟨vy, rfl, r, k⟩
        have K := Lib.hid (K.out.trans k)
        have RA := Lib.hid (RA.out.kept k)
        have RB := Lib.hid (RB.out.kept k)
        have RX := Lib.hid (RX.out.kept k)
        have RY := Lib.hid r
        clear r
        clear k
        go_wp2_with fail
        refine (ofS RA.out (by omega)).mono ?_
        rintro e w6 ⟨vo, rfl, r, k⟩
        have K := Lib.hid (K.out.trans k)
        have RA := Lib.hid (RA.out.kept k)
        have RB := Lib.hid (RB.out.kept k)
        have RX := Lib.hid (RX.out.kept k)
        have RY := Lib.hid (RY.out.kept k)
        have RO := Lib.hid r
        clear r
        clear k
        go_wp2_with fail
        refine (sameR RO.out RB.out).mono ?_
        rintro e w7 ⟨rfl, k⟩
        have K := Lib.hid (K.out.trans k)
        have RA := Lib.hid (RA.out.kept k)
        have RB := Lib.hid (RB.out.kept k)
        have RX := Lib.hid (RX.out.kept k)
        have RY := Lib.hid (RY.out.kept k)
        have RO := Lib.hid (RO.out.kept k)
        clear k
        go_wp2_with fail
        refine (ofSelS RX.out (by omega)).mono ?_
        rintro e w8 ⟨vp, rfl, r, k⟩
        have K := Lib.hid (K.out.trans k)
        have RA := Lib.hid (RA.out.kept k)
        have RB := Lib.hid (RB.out.kept k)
        have RX := Lib.hid (RX.out.kept k)
        have RY := Lib.hid (RY.out.kept k)
        have RO := Lib.hid (RO.out.kept k)
        have RP := Lib.hid r
        clear r
        clear k
        go_wp2_with fail
        refine (sameSelR RP.out RY.out).mono ?_
        rintro e w9 ⟨rfl, k⟩
        have K := Lib.hid (K.out.trans k)
        have RA := Lib.hid (RA.out.kept k)
        have RB := Lib.hid (RB.out.kept k)
        have RX := Lib.hid (RX.out.kept k)
        have RY := Lib.hid (RY.out.kept k)
        have RO := Lib.hid (RO.out.kept k)
        have RP := Lib.hid (RP.out.kept k)
        clear k
        go_wp2_with fail
        refine (textR RA.out HM1.out (by omega) (HB1.out (by trivial))).mono ?_
        rintro e w10 ⟨rfl, k⟩
        have K := Lib.hid (K.out.trans k)
        have RA := Lib.hid (RA.out.kept k)
        have RB := Lib.hid (RB.out.kept k)
        have RX := Lib.hid (RX.out.kept k)
        have RY := Lib.hid (RY.out.kept k)
        have RO := Lib.hid (RO.out.kept k)
        have RP := Lib.hid (RP.out.kept k)
        clear k
        go_wp2_with fail
        refine (selTextR RX.out HM2.out (by omega) (HB2.out (by trivial))).mono ?_
        rintro e w11 ⟨rfl, k⟩
        have K := Lib.hid (K.out.trans k)
        have RA := Lib.hid (RA.out.kept k)
        have RB := Lib.hid (RB.out.kept k)
        have RX := Lib.hid (RX.out.kept k)
        have RY := Lib.hid (RY.out.kept k)
        have RO := Lib.hid (RO.out.kept k)
        have RP := Lib.hid (RP.out.kept k)
        clear k
        go_wp2
        go_ret
        exact ⟨rfl, K.out⟩
      · have n2 : (c2 != 0) = true := by simpa using z2
        have n2' : (c2 == 0) = false := by simpa using z2
        clear z2
        go_enter Tryd.func4, Tryd.ntmps4
        go_wp2_with fail
        refine (HK.out).mono ?_
        rintro e w1 ⟨rfl, k⟩
        have K := Lib.hid k
        clear k
        go_wp2_with fail
        refine (parseR (HE.out.kept K.out) (by omega) HPP.out).mono ?_
        rintro e w2 ⟨va, rfl, r, k⟩
        have K := Lib.hid (K.out.trans k)
        have RA := Lib.hid r
        clear r
        clear k
        go_wp2_with fail
        refine (HRP.out _).mono ?_
        rintro e w3 ⟨vb, rfl, r, k⟩
        have K := Lib.hid (K.out.trans k)
        have RA := Lib.hid (RA.out.kept k)
        have RB := Lib.hid r
        clear r
        clear k
        go_wp2_with fail
        refine (parseSelR (HE.out.kept K.out) (by omega) HPT.out).mono ?_
        rintro e w4 ⟨vx, rfl, r, k⟩
        have K := Lib.hid (K.out.trans k)
        have RA := Lib.hid (RA.out.kept k)
        have RB := Lib.hid (RB.out.kept k)
        have RX := Lib.hid r
        clear r
        clear k
        go_wp2_with fail
        refine (HRT.out _).mono ?_
        rintro e w5 ⟨vy, rfl, r, k⟩
        have K := Lib.hid (K.out.trans k)
        have RA := Lib.hid (RA.out.kept k)
        have RB := Lib.hid (RB.out.kept k)
        have RX := Lib.hid (RX.out.kept k)
        have RY := Lib.hid r
        clear r
        clear k
        go_wp2_with fail
        refine (ofS RA.out (by omega)).mono ?_
        rintro e w6 ⟨vo, rfl, r, k⟩
        have K := Lib.hid (K.out.trans k)
        have RA := Lib.hid (RA.out.kept k)
        have RB := Lib.hid (RB.out.kept k)
        have RX := Lib.hid (RX.out.kept k)
        have RY := Lib.hid (RY.out.kept k)
        have RO := Lib.hid r
        clear r
        clear k
        go_wp2_with fail
        refine (sameR RO.out RB.out).mono ?_
        rintro e w7 ⟨rfl, k⟩
        have K := Lib.hid (K.out.trans k)
        have RA := Lib.hid (RA.out.kept k)
        have RB := Lib.hid (RB.out.kept k)
        have RX := Lib.hid (RX.out.kept k)
        have RY := Lib.hid (RY.out.kept k)
        have RO := Lib.hid (RO.out.kept k)
        clear k
        go_wp2_with fail
        refine (ofSelS RX.out (by omega)).mono ?_
        rintro e w8 ⟨vp, rfl, r, k⟩
        have K := Lib.hid (K.out.trans k)
        have RA := Lib.hid (RA.out.kept k)
        have RB := Lib.hid (RB.out.kept k)
        have RX := Lib.hid (RX.out.kept k)
        have RY := Lib.hid (RY.out.kept k)
        have RO := Lib.hid (RO.out.kept k)
        have RP := Lib.hid r
        clear r
        clear k
        go_wp2_with fail
        refine (sameSelR RP.out RY.out).mono ?_
        rintro e w9 ⟨rfl, k⟩
        have K := Lib.hid (K.out.trans k)
        have RA := Lib.hid (RA.out.kept k)
        have RB := Lib.hid (RB.out.kept k)
        have RX := Lib.hid (RX.out.kept k)
        have RY := Lib.hid (RY.out.kept k)
        have RO := Lib.hid (RO.out.kept k)
        have RP := Lib.hid (RP.out.kept k)
        clear k
        go_wp2_with fail
        refine (textR RA.out HM1.out (by omega) (HB1.out (by trivial))).mono ?_
        rintro e w10 ⟨rfl, k⟩
        have K := Lib.hid (K.out.trans k)
        have RA := Lib.hid (RA.out.kept k)
        have RB := Lib.hid (RB.out.kept k)
        have RX := Lib.hid (RX.out.kept k)
        have RY := Lib.hid (RY.out.kept k)
        have RO := Lib.hid (RO.out.kept k)
        have RP := Lib.hid (RP.out.kept k)
        clear k
        go_wp2
        go_ret
        exact ⟨rfl, K.out⟩
    · have n1 : (c1 != 0) = true := by simpa using z1
      have n1' : (c1 == 0) = false := by simpa using z1
      clear z1
      by_cases z2 : c2 = 0
      · subst z2
        go_enter Tryd.func4, Tryd.ntmps4
        go_wp2_with fail
        refine (HK.out).mono ?_
        rintro e w1 ⟨rfl, k⟩
        have K := Lib.hid k
        clear k
        go_wp2_with fail
        refine (parseR (HE.out.kept K.out) (by omega) HPP.out).mono ?_
        rintro e w2 ⟨va, rfl, r, k⟩
        have K := Lib.hid (K.out.trans k)
        have RA := Lib.hid r
        clear r
        clear k
        go_wp2_with fail
        refine (HRP.out _).mono ?_
        rintro e w3 ⟨vb, rfl, r, k⟩
        have K := Lib.hid (K.out.trans k)
        have RA := Lib.hid (RA.out.kept k)
        have RB := Lib.hid r
        clear r
        clear k
        go_wp2_with fail
        refine (parseSelR (HE.out.kept K.out) (by omega) HPT.out).mono ?_
        rintro e w4 ⟨vx, rfl, r, k⟩
        have K := Lib.hid (K.out.trans k)
        have RA := Lib.hid (RA.out.kept k)
        have RB := Lib.hid (RB.out.kept k)
        have RX := Lib.hid r
        clear r
        clear k
        go_wp2_with fail
        refine (HRT.out _).mono ?_
        rintro e w5 ⟨vy, rfl, r, k⟩
        have K := Lib.hid (K.out.trans k)
        have RA := Lib.hid (RA.out.kept k)
        have RB := Lib.hid (RB.out.kept k)
        have RX := Lib.hid (RX.out.kept k)
        have RY := Lib.hid r
        clear r
        clear k
        go_wp2_with fail
        refine (ofS RA.out (by omega)).mono ?_
        rintro e w6 ⟨vo, rfl, r, k⟩
        have K := Lib.hid (K.out.trans k)
        have RA := Lib.hid (RA.out.kept k)
        have RB := Lib.hid (RB.out.kept k)
        have RX := Lib.hid (RX.out.kept k)
        have RY := Lib.hid (RY.out.kept k)
        have RO := Lib.hid r
        clear r
        clear k
        go_wp2_with fail
        refine (sameR RO.out RB.out).mono ?_
        rintro e w7 ⟨rfl, k⟩
        have K := Lib.hid (K.out.trans k)
        have RA := Lib.hid (RA.out.kept k)
        have RB := Lib.hid (RB.out.kept k)
        have RX := Lib.hid (RX.out.kept k)
        have RY := Lib.hid (RY.out.kept k)
        have RO := Lib.hid (RO.out.kept k)
        clear k
        go_wp2_with fail
        refine (ofSelS RX.out (by omega)).mono ?_
        rintro e w8 ⟨vp, rfl, r, k⟩
        have K := Lib.hid (K.out.trans k)
        have RA := Lib.hid (RA.out.kept k)
        have RB := Lib.hid (RB.out.kept k)
        have RX := Lib.hid (RX.out.kept k)
        have RY := Lib.hid (RY.out.kept k)
        have RO := Lib.hid (RO.out.kept k)
        have RP := Lib.hid r
        clear r
        clear k
        go_wp2_with fail
        refine (sameSelR RP.out RY.out).mono ?_
        rintro e w9 ⟨rfl, k⟩
        have K := Lib.hid (K.out.trans k)
        have RA := Lib.hid (RA.out.kept k)
        have RB := Lib.hid (RB.out.kept k)
        have RX := Lib.hid (RX.out.kept k)
        have RY := Lib.hid (RY.out.kept k)
        have RO := Lib.hid (RO.out.kept k)
        have RP := Lib.hid (RP.out.kept k)
        clear k
        go_wp2_with fail
        refine (selTextR RX.out HM2.out (by omega) (HB2.out (by trivial))).mono ?_
        rintro e w10 ⟨rfl, k⟩
        have K := Lib.hid (K.out.trans k)
        have RA := Lib.hid (RA.out.kept k)
        have RB := Lib.hid (RB.out.kept k)
        have RX := Lib.hid (RX.out.kept k)
        have RY := Lib.hid (RY.out.kept k)
        have RO := Lib.hid (RO.out.kept k)
        have RP := Lib.hid (RP.out.kept k)
        clear k
        go_wp2
        go_ret
        exact ⟨rfl, K.out⟩
      · have n2 : (c2 != 0) = true := by simpa using z2
        have n2' : (c2 == 0) = false := by simpa using z2
        clear z2
        go_enter Tryd.func4, Tryd.ntmps4
        go_wp2_with fail
        refine (HK.out).mono ?_
        rintro e w1 ⟨rfl, k⟩
        have K := Lib.hid k
        clear k
        go_wp2_with fail
        refine (parseR (HE.out.kept K.out) (by omega) HPP.out).mono ?_
        rintro e w2 ⟨va, rfl, r, k⟩
        have K := Lib.hid (K.out.trans k)
        have RA := Lib.hid r
        clear r
        clear k
        go_wp2_with fail
        refine (HRP.out _).mono ?_
        rintro e w3 ⟨vb, rfl, r, k⟩
        have K := Lib.hid (K.out.trans k)
        have RA := Lib.hid (RA.out.kept k)
        have RB := Lib.hid r
        clear r
        clear k
        go_wp2_with fail
        refine (parseSelR (HE.out.kept K.out) (by omega) HPT.out).mono ?_
        rintro e w4 ⟨vx, rfl, r, k⟩
        have K := Lib.hid (K.out.trans k)
        have RA := Lib.hid (RA.out.kept k)
        have RB := Lib.hid (RB.out.kept k)
        have RX := Lib.hid r
        clear r
        clear k
        go_wp2_with fail
        refine (HRT.out _).mono ?_
        rintro e w5 ⟨vy, rfl, r, k⟩
        have K := Lib.hid (K.out.trans k)
        have RA := Lib.hid (RA.out.kept k)
        have RB := Lib.hid (RB.out.kept k)
        have RX := Lib.hid (RX.out.kept k)
        have RY := Lib.hid r
        clear r
        clear k
        go_wp2_with fail
        refine (ofS RA.out (by omega)).mono ?_
        rintro e w6 ⟨vo, rfl, r, k⟩
        have K := Lib.hid (K.out.trans k)
        have RA := Lib.hid (RA.out.kept k)
        have RB := Lib.hid (RB.out.kept k)
        have RX := Lib.hid (RX.out.kept k)
        have RY := Lib.hid (RY.out.kept k)
        have RO := Lib.hid r
        clear r
        clear k
        go_wp2_with fail
        refine (sameR RO.out RB.out).mono ?_
        rintro e w7 ⟨rfl, k⟩
        have K := Lib.hid (K.out.trans k)
        have RA := Lib.hid (RA.out.kept k)
        have RB := Lib.hid (RB.out.kept k)
        have RX := Lib.hid (RX.out.kept k)
        have RY := Lib.hid (RY.out.kept k)
        have RO := Lib.hid (RO.out.kept k)
        clear k
        go_wp2_with fail
        refine (ofSelS RX.out (by omega)).mono ?_
        rintro e w8 ⟨vp, rfl, r, k⟩
        have K := Lib.hid (K.out.trans k)
        have RA := Lib.hid (RA.out.kept k)
        have RB := Lib.hid (RB.out.kept k)
        have RX := Lib.hid (RX.out.kept k)
        have RY := Lib.hid (RY.out.kept k)
        have RO := Lib.hid (RO.out.kept k)
        have RP := Lib.hid r
        clear r
        clear k
        go_wp2_with fail
        refine (sameSelR RP.out RY.out).mono ?_
        rintro e w9 ⟨rfl, k⟩
        have K := Lib.hid (K.out.trans k)
        have RA := Lib.hid (RA.out.kept k)
        have RB := Lib.hid (RB.out.kept k)
        have RX := Lib.hid (RX.out.kept k)
        have RY := Lib.hid (RY.out.kept k)
        have RO := Lib.hid (RO.out.kept k)
        have RP := Lib.hid (RP.out.kept k)
        clear k
        go_wp2
        go_ret
        exact ⟨rfl, K.out⟩
  · have h301 : 300 < s.length := by omega
    clear h300
    go_enter Tryd.func4, Tryd.ntmps4
    go_wp2_with fail
    refine HK.out.mono ?_
    rintro e w1 ⟨rfl, k⟩
    go_wp2
    go_ret
    exact ⟨rfl, k⟩

end Go.Proofs.YtmmjcomoabfmnaaDoor
