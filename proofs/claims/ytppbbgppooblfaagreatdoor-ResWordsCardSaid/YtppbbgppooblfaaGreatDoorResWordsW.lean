/- ResWords: the walk. -/
import Derived.Test.YtppbbgppooblfaaGreatDoorResC
namespace Go.Proofs.YtppbbgppooblfaaGreatDoor.Vec
open Go.RowKit Go.Proofs.YtppbbgppooblfaaGreatDoor
set_option linter.unusedVariables false

set_option maxRecDepth 100000 in
set_option maxHeartbeats 4000000 in
theorem ResWords_walk (s0 : ByteArray) (v0 : Value) (l : V) (w : World) (hE : EnvT w) (hs0 : s0.size ≤ maxLen) (h0 : Reads w v0 l) :
    Calls Tryz.prog 4 #[.string s0, v0] w fun e w' => e = .returned (.bool true) ∧ Kept w w' := by
  obtain ⟨s, rfl⟩ : ∃ s, s0 = bytes s := ⟨_, (bytes_data s0).symm⟩
  have hsz : (bytes s).size = s.length := bytes_size s
  have hs1 := hs0
  unfold maxLen at hs0
  have HK := Lib.hid (known_any w hE)
  have HE := Lib.hid hE
  have R0 := Lib.hid h0
  clear hE h0
  by_cases h300 : s.length ≤ 300
  · by_cases hf : fewV l = true
    · have HF := Lib.hid hf
      have hll : l.length ≤ 1000000 := by
        unfold fewV at hf
        simp only [Bool.and_eq_true, decide_eq_true_eq] at hf
        omega
      obtain ⟨c, m, hp⟩ : ∃ c m, parseV s = (c, m) := ⟨_, _, rfl⟩
      have HP := Lib.hid hp
      have hc1 := parse_check (s := s)
      have hc2 := parse_none (s := s)
      have hb := text_back s
      rw [hp] at hc1 hc2 hb
      dsimp only at hc1 hc2 hb
      have hml : m.length ≤ 1000000 := by
        by_cases z : c = 0
        · have := check_len (hc1 z); omega
        · have := hc2 z
          subst this; simp
      have HC1 := Lib.hid hc1
      have HB := Lib.hid hb
      have hbb : ((bytes s).toList == (bytes s).toList) = true := beq_self_eq_true _
      obtain ⟨y, hy⟩ : ∃ y, isName (bytes s) = y := ⟨_, rfl⟩
      have HY := Lib.hid hy
      obtain ⟨E, hE⟩ : ∃ E, checkV l = E := ⟨_, rfl⟩
      have HEE := Lib.hid hE
      obtain ⟨g, hg⟩ : ∃ g, getV l (bytes s) = g := ⟨_, rfl⟩
      have HG := Lib.hid hg
      have hgg : (g == g) = true := beq_self_eq_true _
      have hyy : (y == y) = true := beq_self_eq_true _
      clear hp hc1 hc2 hb hy hE hg hf
      by_cases zc : c = 0
      · by_cases ze : E = 0
        · subst zc
          subst ze
          go_enter Tryz.func4, Tryz.ntmps4
          go_wp2_with fail
          refine (HK.out).mono ?_
          rintro e w1 ⟨rfl, k⟩
          have K := Lib.hid (k)
          have R0 := Lib.hid (R0.out.kept k)
          clear k
          go_wp2_with fail
          refine (fewR R0.out HF.out).mono ?_
          rintro e w2 ⟨rfl, rfl⟩
          go_wp2_with fail
          refine (parseR (HE.out.kept K.out).toEnv (by omega) HP.out).mono ?_
          rintro e w3 ⟨va, rfl, r, k⟩
          have K := Lib.hid (K.out.trans k)
          have R0 := Lib.hid (R0.out.kept k)
          have RA := Lib.hid r
          clear r
          clear k
          go_wp2_with fail
          refine (refParseR (by omega) HP.out).mono ?_
          rintro e w4 ⟨vb, rfl, r, k⟩
          have K := Lib.hid (K.out.trans k)
          have R0 := Lib.hid (R0.out.kept k)
          have RA := Lib.hid (RA.out.kept k)
          have RB := Lib.hid r
          clear r
          clear k
          go_wp2_with fail
          refine (sameL RA.out RB.out hml).mono ?_
          rintro e w5 ⟨rfl, k⟩
          have K := Lib.hid (K.out.trans k)
          have R0 := Lib.hid (R0.out.kept k)
          have RA := Lib.hid (RA.out.kept k)
          have RB := Lib.hid (RB.out.kept k)
          clear k
          go_wp2_with fail
          refine (textR (HE.out.kept K.out) RA.out (few_check (HC1.out (by trivial)) RA.out.fine) (HB.out (by trivial))).mono ?_
          rintro e w6 ⟨rfl, k⟩
          have K := Lib.hid (K.out.trans k)
          have R0 := Lib.hid (R0.out.kept k)
          have RA := Lib.hid (RA.out.kept k)
          have RB := Lib.hid (RB.out.kept k)
          clear k
          go_wp2_with fail
          refine (nameR hs1 HY.out).mono ?_
          rintro e w7 ⟨rfl, rfl⟩
          go_wp2_with fail
          refine (rnameR hs1 HY.out).mono ?_
          rintro e w8 ⟨rfl, rfl⟩
          go_wp2_with fail
          refine (ofL R0.out hll).mono ?_
          rintro e w9 ⟨vo, rfl, r, k⟩
          have K := Lib.hid (K.out.trans k)
          have R0 := Lib.hid (R0.out.kept k)
          have RA := Lib.hid (RA.out.kept k)
          have RB := Lib.hid (RB.out.kept k)
          have RO := Lib.hid r
          clear r
          clear k
          go_wp2_with fail
          refine (refCheckR RO.out HEE.out).mono ?_
          rintro e w10 ⟨rfl, k⟩
          have K := Lib.hid (K.out.trans k)
          have R0 := Lib.hid (R0.out.kept k)
          have RA := Lib.hid (RA.out.kept k)
          have RB := Lib.hid (RB.out.kept k)
          have RO := Lib.hid (RO.out.kept k)
          clear k
          go_wp2_with fail
          refine (getR R0.out HG.out).mono ?_
          rintro e w11 ⟨rfl, k⟩
          have K := Lib.hid (K.out.trans k)
          have R0 := Lib.hid (R0.out.kept k)
          have RA := Lib.hid (RA.out.kept k)
          have RB := Lib.hid (RB.out.kept k)
          have RO := Lib.hid (RO.out.kept k)
          clear k
          go_wp2_with fail
          refine (ofL R0.out hll).mono ?_
          rintro e w12 ⟨vp, rfl, r, k⟩
          have K := Lib.hid (K.out.trans k)
          have R0 := Lib.hid (R0.out.kept k)
          have RA := Lib.hid (RA.out.kept k)
          have RB := Lib.hid (RB.out.kept k)
          have RO := Lib.hid (RO.out.kept k)
          have RP := Lib.hid r
          clear r
          clear k
          go_wp2_with fail
          refine (rgetR RP.out HG.out).mono ?_
          rintro e w13 ⟨rfl, k⟩
          have K := Lib.hid (K.out.trans k)
          have R0 := Lib.hid (R0.out.kept k)
          have RA := Lib.hid (RA.out.kept k)
          have RB := Lib.hid (RB.out.kept k)
          have RO := Lib.hid (RO.out.kept k)
          have RP := Lib.hid (RP.out.kept k)
          clear k
          go_wp2
          go_ret
          exact ⟨rfl, K.out⟩
        · subst zc
          have ne : (E != 0) = true := by simpa using ze
          go_enter Tryz.func4, Tryz.ntmps4
          go_wp2_with fail
          refine (HK.out).mono ?_
          rintro e w1 ⟨rfl, k⟩
          have K := Lib.hid (k)
          have R0 := Lib.hid (R0.out.kept k)
          clear k
          go_wp2_with fail
          refine (fewR R0.out HF.out).mono ?_
          rintro e w2 ⟨rfl, rfl⟩
          go_wp2_with fail
          refine (parseR (HE.out.kept K.out).toEnv (by omega) HP.out).mono ?_
          rintro e w3 ⟨va, rfl, r, k⟩
          have K := Lib.hid (K.out.trans k)
          have R0 := Lib.hid (R0.out.kept k)
          have RA := Lib.hid r
          clear r
          clear k
          go_wp2_with fail
          refine (refParseR (by omega) HP.out).mono ?_
          rintro e w4 ⟨vb, rfl, r, k⟩
          have K := Lib.hid (K.out.trans k)
          have R0 := Lib.hid (R0.out.kept k)
          have RA := Lib.hid (RA.out.kept k)
          have RB := Lib.hid r
          clear r
          clear k
          go_wp2_with fail
          refine (sameL RA.out RB.out hml).mono ?_
          rintro e w5 ⟨rfl, k⟩
          have K := Lib.hid (K.out.trans k)
          have R0 := Lib.hid (R0.out.kept k)
          have RA := Lib.hid (RA.out.kept k)
          have RB := Lib.hid (RB.out.kept k)
          clear k
          go_wp2_with fail
          refine (textR (HE.out.kept K.out) RA.out (few_check (HC1.out (by trivial)) RA.out.fine) (HB.out (by trivial))).mono ?_
          rintro e w6 ⟨rfl, k⟩
          have K := Lib.hid (K.out.trans k)
          have R0 := Lib.hid (R0.out.kept k)
          have RA := Lib.hid (RA.out.kept k)
          have RB := Lib.hid (RB.out.kept k)
          clear k
          go_wp2_with fail
          refine (nameR hs1 HY.out).mono ?_
          rintro e w7 ⟨rfl, rfl⟩
          go_wp2_with fail
          refine (rnameR hs1 HY.out).mono ?_
          rintro e w8 ⟨rfl, rfl⟩
          go_wp2_with fail
          refine (ofL R0.out hll).mono ?_
          rintro e w9 ⟨vo, rfl, r, k⟩
          have K := Lib.hid (K.out.trans k)
          have R0 := Lib.hid (R0.out.kept k)
          have RA := Lib.hid (RA.out.kept k)
          have RB := Lib.hid (RB.out.kept k)
          have RO := Lib.hid r
          clear r
          clear k
          go_wp2_with fail
          refine (refCheckR RO.out HEE.out).mono ?_
          rintro e w10 ⟨rfl, k⟩
          have K := Lib.hid (K.out.trans k)
          have R0 := Lib.hid (R0.out.kept k)
          have RA := Lib.hid (RA.out.kept k)
          have RB := Lib.hid (RB.out.kept k)
          have RO := Lib.hid (RO.out.kept k)
          clear k
          go_wp2
          go_ret
          exact ⟨rfl, K.out⟩
      · by_cases ze : E = 0
        · have nc : (c == 0) = false := by simpa using zc
          have nc' : ¬ c = 0 := zc
          subst ze
          go_enter Tryz.func4, Tryz.ntmps4
          go_wp2_with fail
          refine (HK.out).mono ?_
          rintro e w1 ⟨rfl, k⟩
          have K := Lib.hid (k)
          have R0 := Lib.hid (R0.out.kept k)
          clear k
          go_wp2_with fail
          refine (fewR R0.out HF.out).mono ?_
          rintro e w2 ⟨rfl, rfl⟩
          go_wp2_with fail
          refine (parseR (HE.out.kept K.out).toEnv (by omega) HP.out).mono ?_
          rintro e w3 ⟨va, rfl, r, k⟩
          have K := Lib.hid (K.out.trans k)
          have R0 := Lib.hid (R0.out.kept k)
          have RA := Lib.hid r
          clear r
          clear k
          go_wp2_with fail
          refine (refParseR (by omega) HP.out).mono ?_
          rintro e w4 ⟨vb, rfl, r, k⟩
          have K := Lib.hid (K.out.trans k)
          have R0 := Lib.hid (R0.out.kept k)
          have RA := Lib.hid (RA.out.kept k)
          have RB := Lib.hid r
          clear r
          clear k
          go_wp2_with fail
          refine (sameL RA.out RB.out hml).mono ?_
          rintro e w5 ⟨rfl, k⟩
          have K := Lib.hid (K.out.trans k)
          have R0 := Lib.hid (R0.out.kept k)
          have RA := Lib.hid (RA.out.kept k)
          have RB := Lib.hid (RB.out.kept k)
          clear k
          go_wp2_with fail
          refine (nameR hs1 HY.out).mono ?_
          rintro e w6 ⟨rfl, rfl⟩
          go_wp2_with fail
          refine (rnameR hs1 HY.out).mono ?_
          rintro e w7 ⟨rfl, rfl⟩
          go_wp2_with fail
          refine (ofL R0.out hll).mono ?_
          rintro e w8 ⟨vo, rfl, r, k⟩
          have K := Lib.hid (K.out.trans k)
          have R0 := Lib.hid (R0.out.kept k)
          have RA := Lib.hid (RA.out.kept k)
          have RB := Lib.hid (RB.out.kept k)
          have RO := Lib.hid r
          clear r
          clear k
          go_wp2_with fail
          refine (refCheckR RO.out HEE.out).mono ?_
          rintro e w9 ⟨rfl, k⟩
          have K := Lib.hid (K.out.trans k)
          have R0 := Lib.hid (R0.out.kept k)
          have RA := Lib.hid (RA.out.kept k)
          have RB := Lib.hid (RB.out.kept k)
          have RO := Lib.hid (RO.out.kept k)
          clear k
          go_wp2_with fail
          refine (getR R0.out HG.out).mono ?_
          rintro e w10 ⟨rfl, k⟩
          have K := Lib.hid (K.out.trans k)
          have R0 := Lib.hid (R0.out.kept k)
          have RA := Lib.hid (RA.out.kept k)
          have RB := Lib.hid (RB.out.kept k)
          have RO := Lib.hid (RO.out.kept k)
          clear k
          go_wp2_with fail
          refine (ofL R0.out hll).mono ?_
          rintro e w11 ⟨vp, rfl, r, k⟩
          have K := Lib.hid (K.out.trans k)
          have R0 := Lib.hid (R0.out.kept k)
          have RA := Lib.hid (RA.out.kept k)
          have RB := Lib.hid (RB.out.kept k)
          have RO := Lib.hid (RO.out.kept k)
          have RP := Lib.hid r
          clear r
          clear k
          go_wp2_with fail
          refine (rgetR RP.out HG.out).mono ?_
          rintro e w12 ⟨rfl, k⟩
          have K := Lib.hid (K.out.trans k)
          have R0 := Lib.hid (R0.out.kept k)
          have RA := Lib.hid (RA.out.kept k)
          have RB := Lib.hid (RB.out.kept k)
          have RO := Lib.hid (RO.out.kept k)
          have RP := Lib.hid (RP.out.kept k)
          clear k
          go_wp2
          go_ret
          exact ⟨rfl, K.out⟩
        · have nc : (c == 0) = false := by simpa using zc
          have nc' : ¬ c = 0 := zc
          have ne : (E != 0) = true := by simpa using ze
          go_enter Tryz.func4, Tryz.ntmps4
          go_wp2_with fail
          refine (HK.out).mono ?_
          rintro e w1 ⟨rfl, k⟩
          have K := Lib.hid (k)
          have R0 := Lib.hid (R0.out.kept k)
          clear k
          go_wp2_with fail
          refine (fewR R0.out HF.out).mono ?_
          rintro e w2 ⟨rfl, rfl⟩
          go_wp2_with fail
          refine (parseR (HE.out.kept K.out).toEnv (by omega) HP.out).mono ?_
          rintro e w3 ⟨va, rfl, r, k⟩
          have K := Lib.hid (K.out.trans k)
          have R0 := Lib.hid (R0.out.kept k)
          have RA := Lib.hid r
          clear r
          clear k
          go_wp2_with fail
          refine (refParseR (by omega) HP.out).mono ?_
          rintro e w4 ⟨vb, rfl, r, k⟩
          have K := Lib.hid (K.out.trans k)
          have R0 := Lib.hid (R0.out.kept k)
          have RA := Lib.hid (RA.out.kept k)
          have RB := Lib.hid r
          clear r
          clear k
          go_wp2_with fail
          refine (sameL RA.out RB.out hml).mono ?_
          rintro e w5 ⟨rfl, k⟩
          have K := Lib.hid (K.out.trans k)
          have R0 := Lib.hid (R0.out.kept k)
          have RA := Lib.hid (RA.out.kept k)
          have RB := Lib.hid (RB.out.kept k)
          clear k
          go_wp2_with fail
          refine (nameR hs1 HY.out).mono ?_
          rintro e w6 ⟨rfl, rfl⟩
          go_wp2_with fail
          refine (rnameR hs1 HY.out).mono ?_
          rintro e w7 ⟨rfl, rfl⟩
          go_wp2_with fail
          refine (ofL R0.out hll).mono ?_
          rintro e w8 ⟨vo, rfl, r, k⟩
          have K := Lib.hid (K.out.trans k)
          have R0 := Lib.hid (R0.out.kept k)
          have RA := Lib.hid (RA.out.kept k)
          have RB := Lib.hid (RB.out.kept k)
          have RO := Lib.hid r
          clear r
          clear k
          go_wp2_with fail
          refine (refCheckR RO.out HEE.out).mono ?_
          rintro e w9 ⟨rfl, k⟩
          have K := Lib.hid (K.out.trans k)
          have R0 := Lib.hid (R0.out.kept k)
          have RA := Lib.hid (RA.out.kept k)
          have RB := Lib.hid (RB.out.kept k)
          have RO := Lib.hid (RO.out.kept k)
          clear k
          go_wp2
          go_ret
          exact ⟨rfl, K.out⟩
    · have HF := Lib.hid (show fewV l = false by simpa using hf)
      clear hf
      go_enter Tryz.func4, Tryz.ntmps4
      go_wp2_with fail
      refine (HK.out).mono ?_
      rintro e w1 ⟨rfl, k⟩
      have K := Lib.hid (k)
      have R0 := Lib.hid (R0.out.kept k)
      clear k
      go_wp2_with fail
      refine (fewR R0.out HF.out).mono ?_
      rintro e w2 ⟨rfl, rfl⟩
      go_wp2
      go_ret
      exact ⟨rfl, K.out⟩
  · go_enter Tryz.func4, Tryz.ntmps4
    go_wp2_with fail
    refine (HK.out).mono ?_
    rintro e w1 ⟨rfl, k⟩
    have K := Lib.hid (k)
    have R0 := Lib.hid (R0.out.kept k)
    clear k
    go_wp2
    go_ret
    exact ⟨rfl, K.out⟩

end Go.Proofs.YtppbbgppooblfaaGreatDoor.Vec
