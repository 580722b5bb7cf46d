/- LabelAny: the walk. -/
import Derived.Test.YtmmjcomoabfmnaaDoorLabelWordsW
import Derived.Test.YtmmjcomoabfmnaaDoorLabRefGet
import Derived.Test.YtmmjcomoabfmnaaDoorLabRefTellP
import Derived.Test.YtmmjcomoabfmnaaDoorLabRefTellT
namespace Go.Proofs.YtmmjcomoabfmnaaDoor
open Go.RowKit
set_option linter.unusedVariables false

theorem parseB {t : ByteArray} {c : Int} {l : PL} {w : World} (hE : Env w) (hs : t.size ≤ 1000000) (h : parsedP t.data.toList = (c, l)) :
    Calls Tryd.prog 25 #[.string t] w (Got PairLay c l w) := by
  have := parseR (s := t.data.toList) hE (by rw [Array.length_toList, ByteArray.size_data]; exact hs) h
  rw [bytes_data] at this; exact this
theorem parseSelB {t : ByteArray} {c : Int} {l : TL} {w : World} (hE : Env w) (hs : t.size ≤ 1000000) (h : parsedT t.data.toList = (c, l)) :
    Calls Tryd.prog 26 #[.string t] w (Got TermLay c l w) := by
  have := parseSelR (s := t.data.toList) hE (by rw [Array.length_toList, ByteArray.size_data]; exact hs) h
  rw [bytes_data] at this; exact this
theorem few_mid {s : PL} (h : fewS s = true) : s.length ≤ 20 ∧ ∀ x ∈ s, x.1.size ≤ 50 ∧ x.2.size ≤ 50 := by
  unfold fewS at h
  simp only [Bool.and_eq_true, decide_eq_true_eq, List.all_eq_true] at h
  refine ⟨h.1, fun x hx => ?_⟩
  have := h.2 x hx
  unfold fewP at this
  simpa using this
theorem fewL_mid {l : TL} (h : fewL l = true) : l.length ≤ 20 ∧ ∀ x ∈ l, x.2.1.size ≤ 50 ∧ x.2.2.size ≤ 50 := by
  unfold fewL at h
  simp only [Bool.and_eq_true, decide_eq_true_eq, List.all_eq_true] at h
  refine ⟨h.1, fun x hx => ?_⟩
  have := h.2 x hx
  unfold fewT at this
  simpa using this
theorem textS_short {s : PL} (h : fewS s = true) : (textS s).size ≤ 1000000 := by
  have hm := few_mid h
  unfold textS
  split
  · exact (by decide : (⟨#[45]⟩ : ByteArray).size ≤ 1000000)
  · have := joinB_short (ts := s.map pairB) (B := 101) (by
      intro y hy
      obtain ⟨z, hz, rfl⟩ := List.mem_map.1 hy
      have := hm.2 z hz
      unfold pairB
      rw [ByteArray.size_append, ByteArray.size_append]
      have e : (⟨#[58]⟩ : ByteArray).size = 1 := rfl
      omega)
    rw [List.length_map] at this
    omega
theorem textL_short {l : TL} (h : fewL l = true) : (textL l).size ≤ 1000000 := by
  have hm := fewL_mid h
  unfold textL
  split
  · exact (by decide : (⟨#[45]⟩ : ByteArray).size ≤ 1000000)
  · have := joinB_short (ts := l.map termB) (B := 101) (by
      intro y hy
      obtain ⟨z, hz, rfl⟩ := List.mem_map.1 hy
      have := hm.2 z hz
      have e1 : (⟨#[58]⟩ : ByteArray).size = 1 := rfl
      have e2 : (⟨#[33]⟩ : ByteArray).size = 1 := rfl
      have e3 : (⟨#[45]⟩ : ByteArray).size = 1 := rfl
      unfold termB
      split
      · rw [ByteArray.size_append, ByteArray.size_append]; omega
      · split
        · rw [ByteArray.size_append, ByteArray.size_append]; omega
        · split
          · rw [ByteArray.size_append]; omega
          · omega)
    rw [List.length_map] at this
    omega

set_option maxRecDepth 100000 in
set_option maxHeartbeats 4000000 in
theorem LabelAny_walk (v0 : Value) (s : PL) (v1 : Value) (l : TL) (key : ByteArray) (w : World) (hE : Env w) (r0 : Reads PairLay w v0 s) (r1 : Reads TermLay w v1 l) (hk : key.size ≤ maxLen) :
    Calls Tryd.prog 3 #[v0, v1, .string key] w fun e w' => e = .returned (.bool true) ∧ Kept w w' := by
  have HK := Lib.hid (known_any w hE)
  have HE := Lib.hid hE
  have R0 := Lib.hid r0
  have R1 := Lib.hid r1
  have hk' := hk
  unfold maxLen at hk'
  clear hE r0 r1
  by_cases g1 : fewS s = true
  · have f1 := Lib.hid g1
    by_cases g2 : fewL l = true
    · have f2 := Lib.hid g2
      by_cases g3 : key.size ≤ 50
      · obtain ⟨c1, hc1⟩ : ∃ c, chkS s = c := ⟨_, rfl⟩
        obtain ⟨c2, hc2⟩ : ∃ c, chkL l = c := ⟨_, rfl⟩
        have C1 := Lib.hid hc1
        have C2 := Lib.hid hc2
        by_cases z1 : c1 = 0
        · subst z1
          by_cases z2 : c2 = 0
          · subst z2
            have hm1 := few_mid g1
            have hm2 := fewL_mid g2
            have T1 := Lib.hid (text_told hc1)
            have T2 := Lib.hid (selText_told hc2)
            have S1 := Lib.hid (textS_short g1)
            have S2 := Lib.hid (textL_short g2)
            have M1 := Lib.hid (show ∀ x ∈ s, x.1.size ≤ 1000000 ∧ x.2.size ≤ 1000000 from fun x hx => by have := hm1.2 x hx; omega)
            have M2 := Lib.hid (show ∀ x ∈ l, x.2.1.size ≤ 1000000 ∧ x.2.2.size ≤ 1000000 from fun x hx => by have := hm2.2 x hx; omega)
            have M3 := Lib.hid (show ∀ x ∈ l, x.2.1.size ≤ 1000000 ∧ x.2.2.size ≤ 1000000 ∧ 1 ≤ x.1 ∧ x.1 ≤ 4 from fun x hx => ⟨(M2.out x hx).1, (M2.out x hx).2, (term_told (chk_terms hc2 x hx)).2.2.2.1, (term_told (chk_terms hc2 x hx)).2.2.2.2⟩)
            have hl1 : s.length ≤ 1000000 := by omega
            have hl2 : l.length ≤ 1000000 := by omega
            obtain ⟨t1, ht1⟩ : ∃ t, textS s = t := ⟨_, rfl⟩
            obtain ⟨t2, ht2⟩ : ∃ t, textL l = t := ⟨_, rfl⟩
            have TT1 := Lib.hid ht1
            have TT2 := Lib.hid ht2
            rw [ht1] at T1 S1
            rw [ht2] at T2 S2
            obtain ⟨gx, hgx⟩ : ∃ x, getT s key = x := ⟨_, rfl⟩
            obtain ⟨gh, hgh⟩ : ∃ x, hasS s key = x := ⟨_, rfl⟩
            obtain ⟨m, hmm⟩ : ∃ x, matchT l s = x := ⟨_, rfl⟩
            have G1 := Lib.hid hgx
            have G2 := Lib.hid hgh
            have GM := Lib.hid hmm
            clear hc1 hc2 hm1 hm2 ht1 ht2 hgx hgh hmm
            go_enter Tryd.func3, Tryd.ntmps3
            go_wp2_with fail
            refine (HK.out).mono ?_
            rintro e w1 ⟨rfl, k⟩
            have K := Lib.hid k
            have R0 := Lib.hid (R0.out.kept k)
            have R1 := Lib.hid (R1.out.kept k)
            clear k
            go_wp2_with fail
            refine (fewR R0.out).mono ?_
            rintro e w2 ⟨rfl, rfl⟩
            go_wp2_with fail
            refine (fewSelR R1.out).mono ?_
            rintro e w3 ⟨rfl, rfl⟩
            go_wp2_with fail
            refine (ofR R0.out f1.out).mono ?_
            rintro e w4 ⟨x, rfl, r, k⟩
            have K := Lib.hid (K.out.trans k)
            have R0 := Lib.hid (R0.out.kept k)
            have R1 := Lib.hid (R1.out.kept k)
            have X := Lib.hid r
            clear r
            clear k
            go_wp2_with fail
            refine (ofSelR R1.out f2.out).mono ?_
            rintro e w5 ⟨y, rfl, r, k⟩
            have K := Lib.hid (K.out.trans k)
            have R0 := Lib.hid (R0.out.kept k)
            have R1 := Lib.hid (R1.out.kept k)
            have X := Lib.hid (X.out.kept k)
            have Y := Lib.hid r
            clear r
            clear k
            go_wp2_with fail
            refine (refCheckR X.out C1.out).mono ?_
            rintro e w6 ⟨rfl, k⟩
            have K := Lib.hid (K.out.trans k)
            have R0 := Lib.hid (R0.out.kept k)
            have R1 := Lib.hid (R1.out.kept k)
            have X := Lib.hid (X.out.kept k)
            have Y := Lib.hid (Y.out.kept k)
            clear k
            go_wp2_with fail
            refine (refCheckSelR Y.out C2.out).mono ?_
            rintro e w7 ⟨rfl, k⟩
            have K := Lib.hid (K.out.trans k)
            have R0 := Lib.hid (R0.out.kept k)
            have R1 := Lib.hid (R1.out.kept k)
            have X := Lib.hid (X.out.kept k)
            have Y := Lib.hid (Y.out.kept k)
            clear k
            go_wp2_with fail
            refine (checkR R0.out C1.out).mono ?_
            rintro e w8 ⟨rfl, k⟩
            have K := Lib.hid (K.out.trans k)
            have R0 := Lib.hid (R0.out.kept k)
            have R1 := Lib.hid (R1.out.kept k)
            have X := Lib.hid (X.out.kept k)
            have Y := Lib.hid (Y.out.kept k)
            clear k
            go_wp2_with fail
            refine (checkSelR R1.out C2.out).mono ?_
            rintro e w9 ⟨rfl, k⟩
            have K := Lib.hid (K.out.trans k)
            have R0 := Lib.hid (R0.out.kept k)
            have R1 := Lib.hid (R1.out.kept k)
            have X := Lib.hid (X.out.kept k)
            have Y := Lib.hid (Y.out.kept k)
            clear k
            go_wp2_with fail
            refine (getR R0.out G1.out G2.out).mono ?_
            rintro e w10 ⟨rfl, k⟩
            have K := Lib.hid (K.out.trans k)
            have R0 := Lib.hid (R0.out.kept k)
            have R1 := Lib.hid (R1.out.kept k)
            have X := Lib.hid (X.out.kept k)
            have Y := Lib.hid (Y.out.kept k)
            clear k
            go_wp2_with fail
            refine (refLabelR X.out G1.out G2.out).mono ?_
            rintro e w11 ⟨rfl, k⟩
            have K := Lib.hid (K.out.trans k)
            have R0 := Lib.hid (R0.out.kept k)
            have R1 := Lib.hid (R1.out.kept k)
            have X := Lib.hid (X.out.kept k)
            have Y := Lib.hid (Y.out.kept k)
            clear k
            go_wp2_with fail
            refine (matchR R1.out R0.out GM.out).mono ?_
            rintro e w12 ⟨rfl, k⟩
            have K := Lib.hid (K.out.trans k)
            have R0 := Lib.hid (R0.out.kept k)
            have R1 := Lib.hid (R1.out.kept k)
            have X := Lib.hid (X.out.kept k)
            have Y := Lib.hid (Y.out.kept k)
            clear k
            go_wp2_with fail
            refine (refMatchR Y.out X.out GM.out).mono ?_
            rintro e w13 ⟨rfl, k⟩
            have K := Lib.hid (K.out.trans k)
            have R0 := Lib.hid (R0.out.kept k)
            have R1 := Lib.hid (R1.out.kept k)
            have X := Lib.hid (X.out.kept k)
            have Y := Lib.hid (Y.out.kept k)
            clear k
            go_wp2_with fail
            refine (textR R0.out M1.out hl1 TT1.out).mono ?_
            rintro e w14 ⟨rfl, k⟩
            have K := Lib.hid (K.out.trans k)
            have R0 := Lib.hid (R0.out.kept k)
            have R1 := Lib.hid (R1.out.kept k)
            have X := Lib.hid (X.out.kept k)
            have Y := Lib.hid (Y.out.kept k)
            clear k
            go_wp2_with fail
            refine (refTextR X.out M1.out hl1).mono ?_
            rintro e w15 ⟨rfl, k⟩
            have K := Lib.hid (K.out.trans k)
            have R0 := Lib.hid (R0.out.kept k)
            have R1 := Lib.hid (R1.out.kept k)
            have X := Lib.hid (X.out.kept k)
            have Y := Lib.hid (Y.out.kept k)
            clear k
            rw [TT1.out]
            go_wp2_with fail
            refine (selTextR R1.out M2.out hl2 TT2.out).mono ?_
            rintro e w16 ⟨rfl, k⟩
            have K := Lib.hid (K.out.trans k)
            have R0 := Lib.hid (R0.out.kept k)
            have R1 := Lib.hid (R1.out.kept k)
            have X := Lib.hid (X.out.kept k)
            have Y := Lib.hid (Y.out.kept k)
            clear k
            go_wp2_with fail
            refine (refSelTextR Y.out M3.out hl2).mono ?_
            rintro e w17 ⟨rfl, k⟩
            have K := Lib.hid (K.out.trans k)
            have R0 := Lib.hid (R0.out.kept k)
            have R1 := Lib.hid (R1.out.kept k)
            have X := Lib.hid (X.out.kept k)
            have Y := Lib.hid (Y.out.kept k)
            clear k
            rw [TT2.out]
            go_wp2_with fail
            refine (textR R0.out M1.out hl1 TT1.out).mono ?_
            rintro e w18 ⟨rfl, k⟩
            have K := Lib.hid (K.out.trans k)
            have R0 := Lib.hid (R0.out.kept k)
            have R1 := Lib.hid (R1.out.kept k)
            have X := Lib.hid (X.out.kept k)
            have Y := Lib.hid (Y.out.kept k)
            clear k
            go_wp2_with fail
            refine (parseB (HE.out.kept K.out) S1.out T1.out).mono ?_
            rintro e w19 ⟨a, rfl, r, k⟩
            have K := Lib.hid (K.out.trans k)
            have R0 := Lib.hid (R0.out.kept k)
            have R1 := Lib.hid (R1.out.kept k)
            have X := Lib.hid (X.out.kept k)
            have Y := Lib.hid (Y.out.kept k)
            have RA := Lib.hid r
            clear r
            clear k
            go_wp2_with fail
            refine (selTextR R1.out M2.out hl2 TT2.out).mono ?_
            rintro e w20 ⟨rfl, k⟩
            have K := Lib.hid (K.out.trans k)
            have R0 := Lib.hid (R0.out.kept k)
            have R1 := Lib.hid (R1.out.kept k)
            have X := Lib.hid (X.out.kept k)
            have Y := Lib.hid (Y.out.kept k)
            have RA := Lib.hid (RA.out.kept k)
            clear k
            go_wp2_with fail
            refine (parseSelB (HE.out.kept K.out) S2.out T2.out).mono ?_
            rintro e w21 ⟨b, rfl, r, k⟩
            have K := Lib.hid (K.out.trans k)
            have R0 := Lib.hid (R0.out.kept k)
            have R1 := Lib.hid (R1.out.kept k)
            have X := Lib.hid (X.out.kept k)
            have Y := Lib.hid (Y.out.kept k)
            have RA := Lib.hid (RA.out.kept k)
            have RB := Lib.hid r
            clear r
            clear k
            go_wp2_with fail
            refine (ofS RA.out hl1).mono ?_
            rintro e w22 ⟨va, rfl, r, k⟩
            have K := Lib.hid (K.out.trans k)
            have R0 := Lib.hid (R0.out.kept k)
            have R1 := Lib.hid (R1.out.kept k)
            have X := Lib.hid (X.out.kept k)
            have Y := Lib.hid (Y.out.kept k)
            have RA := Lib.hid (RA.out.kept k)
            have RB := Lib.hid (RB.out.kept k)
            have OA := Lib.hid r
            clear r
            clear k
            go_wp2_with fail
            refine (sameR OA.out X.out).mono ?_
            rintro e w23 ⟨rfl, k⟩
            have K := Lib.hid (K.out.trans k)
            have R0 := Lib.hid (R0.out.kept k)
            have R1 := Lib.hid (R1.out.kept k)
            have X := Lib.hid (X.out.kept k)
            have Y := Lib.hid (Y.out.kept k)
            have RA := Lib.hid (RA.out.kept k)
            have RB := Lib.hid (RB.out.kept k)
            have OA := Lib.hid (OA.out.kept k)
            clear k
            go_wp2_with fail
            refine (ofSelS RB.out hl2).mono ?_
            rintro e w24 ⟨vb, rfl, r, k⟩
            have K := Lib.hid (K.out.trans k)
            have R0 := Lib.hid (R0.out.kept k)
            have R1 := Lib.hid (R1.out.kept k)
            have X := Lib.hid (X.out.kept k)
            have Y := Lib.hid (Y.out.kept k)
            have RA := Lib.hid (RA.out.kept k)
            have RB := Lib.hid (RB.out.kept k)
            have OA := Lib.hid (OA.out.kept k)
            have OB := Lib.hid r
            clear r
            clear k
            go_wp2_with fail
            refine (sameSelR OB.out Y.out).mono ?_
            rintro e w25 ⟨rfl, k⟩
            have K := Lib.hid (K.out.trans k)
            have R0 := Lib.hid (R0.out.kept k)
            have R1 := Lib.hid (R1.out.kept k)
            have X := Lib.hid (X.out.kept k)
            have Y := Lib.hid (Y.out.kept k)
            have RA := Lib.hid (RA.out.kept k)
            have RB := Lib.hid (RB.out.kept k)
            have OA := Lib.hid (OA.out.kept k)
            have OB := Lib.hid (OB.out.kept k)
            clear k
            go_wp2
            go_ret
            exact ⟨rfl, K.out⟩
          · have n2 : (c2 != 0) = true := by simpa using z2
            clear hc1 hc2 z2
            go_enter Tryd.func3, Tryd.ntmps3
            go_wp2_with fail
            refine (HK.out).mono ?_
            rintro e w1 ⟨rfl, k⟩
            have K := Lib.hid k
            have R0 := Lib.hid (R0.out.kept k)
            have R1 := Lib.hid (R1.out.kept k)
            clear k
            go_wp2_with fail
            refine (fewR R0.out).mono ?_
            rintro e w2 ⟨rfl, rfl⟩
            go_wp2_with fail
            refine (fewSelR R1.out).mono ?_
            rintro e w3 ⟨rfl, rfl⟩
            go_wp2_with fail
            refine (ofR R0.out f1.out).mono ?_
            rintro e w4 ⟨x, rfl, r, k⟩
            have K := Lib.hid (K.out.trans k)
            have R0 := Lib.hid (R0.out.kept k)
            have R1 := Lib.hid (R1.out.kept k)
            have X := Lib.hid r
            clear r
            clear k
            go_wp2_with fail
            refine (ofSelR R1.out f2.out).mono ?_
            rintro e w5 ⟨y, rfl, r, k⟩
            have K := Lib.hid (K.out.trans k)
            have R0 := Lib.hid (R0.out.kept k)
            have R1 := Lib.hid (R1.out.kept k)
            have X := Lib.hid (X.out.kept k)
            have Y := Lib.hid r
            clear r
            clear k
            go_wp2_with fail
            refine (refCheckR X.out C1.out).mono ?_
            rintro e w6 ⟨rfl, k⟩
            have K := Lib.hid (K.out.trans k)
            have R0 := Lib.hid (R0.out.kept k)
            have R1 := Lib.hid (R1.out.kept k)
            have X := Lib.hid (X.out.kept k)
            have Y := Lib.hid (Y.out.kept k)
            clear k
            go_wp2_with fail
            refine (refCheckSelR Y.out C2.out).mono ?_
            rintro e w7 ⟨rfl, k⟩
            have K := Lib.hid (K.out.trans k)
            have R0 := Lib.hid (R0.out.kept k)
            have R1 := Lib.hid (R1.out.kept k)
            have X := Lib.hid (X.out.kept k)
            have Y := Lib.hid (Y.out.kept k)
            clear k
            go_wp2_with fail
            refine (checkR R0.out C1.out).mono ?_
            rintro e w8 ⟨rfl, k⟩
            have K := Lib.hid (K.out.trans k)
            have R0 := Lib.hid (R0.out.kept k)
            have R1 := Lib.hid (R1.out.kept k)
            have X := Lib.hid (X.out.kept k)
            have Y := Lib.hid (Y.out.kept k)
            clear k
            go_wp2_with fail
            refine (checkSelR R1.out C2.out).mono ?_
            rintro e w9 ⟨rfl, k⟩
            have K := Lib.hid (K.out.trans k)
            have R0 := Lib.hid (R0.out.kept k)
            have R1 := Lib.hid (R1.out.kept k)
            have X := Lib.hid (X.out.kept k)
            have Y := Lib.hid (Y.out.kept k)
            clear k
            go_wp2
            go_ret
            exact ⟨rfl, K.out⟩
        · have n1 : (c1 != 0) = true := by simpa using z1
          clear hc1 hc2 z1
          go_enter Tryd.func3, Tryd.ntmps3
          go_wp2_with fail
          refine (HK.out).mono ?_
          rintro e w1 ⟨rfl, k⟩
          have K := Lib.hid k
          have R0 := Lib.hid (R0.out.kept k)
          have R1 := Lib.hid (R1.out.kept k)
          clear k
          go_wp2_with fail
          refine (fewR R0.out).mono ?_
          rintro e w2 ⟨rfl, rfl⟩
          go_wp2_with fail
          refine (fewSelR R1.out).mono ?_
          rintro e w3 ⟨rfl, rfl⟩
          go_wp2_with fail
          refine (ofR R0.out f1.out).mono ?_
          rintro e w4 ⟨x, rfl, r, k⟩
          have K := Lib.hid (K.out.trans k)
          have R0 := Lib.hid (R0.out.kept k)
          have R1 := Lib.hid (R1.out.kept k)
          have X := Lib.hid r
          clear r
          clear k
          go_wp2_with fail
          refine (ofSelR R1.out f2.out).mono ?_
          rintro e w5 ⟨y, rfl, r, k⟩
          have K := Lib.hid (K.out.trans k)
          have R0 := Lib.hid (R0.out.kept k)
          have R1 := Lib.hid (R1.out.kept k)
          have X := Lib.hid (X.out.kept k)
          have Y := Lib.hid r
          clear r
          clear k
          go_wp2_with fail
          refine (refCheckR X.out C1.out).mono ?_
          rintro e w6 ⟨rfl, k⟩
          have K := Lib.hid (K.out.trans k)
          have R0 := Lib.hid (R0.out.kept k)
          have R1 := Lib.hid (R1.out.kept k)
          have X := Lib.hid (X.out.kept k)
          have Y := Lib.hid (Y.out.kept k)
          clear k
          go_wp2_with fail
          refine (refCheckSelR Y.out C2.out).mono ?_
          rintro e w7 ⟨rfl, k⟩
          have K := Lib.hid (K.out.trans k)
          have R0 := Lib.hid (R0.out.kept k)
          have R1 := Lib.hid (R1.out.kept k)
          have X := Lib.hid (X.out.kept k)
          have Y := Lib.hid (Y.out.kept k)
          clear k
          go_wp2_with fail
          refine (checkR R0.out C1.out).mono ?_
          rintro e w8 ⟨rfl, k⟩
          have K := Lib.hid (K.out.trans k)
          have R0 := Lib.hid (R0.out.kept k)
          have R1 := Lib.hid (R1.out.kept k)
          have X := Lib.hid (X.out.kept k)
          have Y := Lib.hid (Y.out.kept k)
          clear k
          go_wp2_with fail
          refine (checkSelR R1.out C2.out).mono ?_
          rintro e w9 ⟨rfl, k⟩
          have K := Lib.hid (K.out.trans k)
          have R0 := Lib.hid (R0.out.kept k)
          have R1 := Lib.hid (R1.out.kept k)
          have X := Lib.hid (X.out.kept k)
          have Y := Lib.hid (Y.out.kept k)
          clear k
          go_wp2
          go_ret
          exact ⟨rfl, K.out⟩
      · have g3 : 50 < key.size := by omega
        go_enter Tryd.func3, Tryd.ntmps3
        go_wp2_with fail
        refine (HK.out).mono ?_
        rintro e w1 ⟨rfl, k⟩
        have K := Lib.hid k
        have R0 := Lib.hid (R0.out.kept k)
        have R1 := Lib.hid (R1.out.kept k)
        clear k
        go_wp2_with fail
        refine (fewR R0.out).mono ?_
        rintro e w2 ⟨rfl, rfl⟩
        go_wp2_with fail
        refine (fewSelR R1.out).mono ?_
        rintro e w3 ⟨rfl, rfl⟩
        go_wp2
        go_ret
        exact ⟨rfl, K.out⟩
    · have g2 : fewL l = false := by simpa using g2
      go_enter Tryd.func3, Tryd.ntmps3
      go_wp2_with fail
      refine (HK.out).mono ?_
      rintro e w1 ⟨rfl, k⟩
      have K := Lib.hid k
      have R0 := Lib.hid (R0.out.kept k)
      have R1 := Lib.hid (R1.out.kept k)
      clear k
      go_wp2_with fail
      refine (fewR R0.out).mono ?_
      rintro e w2 ⟨rfl, rfl⟩
      go_wp2_with fail
      refine (fewSelR R1.out).mono ?_
      rintro e w3 ⟨rfl, rfl⟩
      go_wp2
      go_ret
      exact ⟨rfl, K.out⟩
  · have g1 : fewS s = false := by simpa using g1
    go_enter Tryd.func3, Tryd.ntmps3
    go_wp2_with fail
    refine (HK.out).mono ?_
    rintro e w1 ⟨rfl, k⟩
    have K := Lib.hid k
    have R0 := Lib.hid (R0.out.kept k)
    have R1 := Lib.hid (R1.out.kept k)
    clear k
    go_wp2_with fail
    refine (fewR R0.out).mono ?_
    rintro e w2 ⟨rfl, rfl⟩
    go_wp2
    go_ret
    exact ⟨rfl, K.out⟩

end Go.Proofs.YtmmjcomoabfmnaaDoor
