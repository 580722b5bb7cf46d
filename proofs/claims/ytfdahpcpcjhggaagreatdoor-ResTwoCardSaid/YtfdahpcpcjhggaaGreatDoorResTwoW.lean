/- ResTwo: the walk. -/
import Derived.Test.YtfdahpcpcjhggaaGreatDoorResC
import Derived.Test.YtfdahpcpcjhggaaGreatDoorRefVecAdd
import Derived.Test.YtfdahpcpcjhggaaGreatDoorRefVecSub
import Derived.Test.YtfdahpcpcjhggaaGreatDoorNodA
import Derived.OpenShut
namespace Go.Proofs.YtfdahpcpcjhggaaGreatDoor.Vec
open Go.RowKit Go.Proofs.YtfdahpcpcjhggaaGreatDoor
set_option linter.unusedVariables false

theorem rtimesR {v : Value} {l m : V} {c n : Int} {w : World} (h : Reads w v l) (hn : -9223372036854775808 ≤ n) (hn' : n ≤ 9223372036854775807) (e : eachV mulF n l = (c, m)) :
    Calls Tryz.prog 19 #[v, .int .i64 n] w (Got c m w) := by
  obtain ⟨a, cap, rfl, _, _, h3⟩ := h
  refine (rtimes_any a _ cap l n w h3 hn hn').mono ?_
  rw [e]
  rintro e w' ⟨x, rfl, ho, k⟩
  exact ⟨x, rfl, ho.at_, k⟩
theorem rpartsR {v : Value} {l m : V} {c n : Int} {w : World} (h : Reads w v l) (hn : -9223372036854775808 ≤ n) (hn' : n ≤ 9223372036854775807) (e : eachV partF n l = (c, m)) :
    Calls Tryz.prog 21 #[v, .int .i64 n] w (Got c m w) := by
  obtain ⟨a, cap, rfl, _, _, h3⟩ := h
  refine (rparts_any a _ cap l n w h3 hn hn').mono ?_
  rw [e]
  rintro e w' ⟨x, rfl, ho, k⟩
  exact ⟨x, rfl, ho.at_, k⟩
theorem rfitsR {v v' : Value} {l l' : V} {c : Bool} {w : World} (h : Reads w v l) (h' : Reads w v' l') (e : fitsFrom l' l = c) :
    Calls Tryz.prog 23 #[v, v'] w fun x w' => x = .returned (.bool c) ∧ Kept w w' := by
  subst e
  obtain ⟨a, cap, rfl, _, _, h3⟩ := h
  obtain ⟨a', cap', rfl, _, _, h3'⟩ := h'
  exact rfits_any a a' _ cap _ cap' l l' w h3 h3'
theorem merged_short (f : Int → Int → Int × Int) (l l' : V) : (mergedV f l l').2.length ≤ 1000000 := by
  unfold mergedV
  split
  · simp
  · split
    · simp
    · simp only
      split
      · simp
      · split
        · simp
        · simp only; omega
theorem each_len (f : Int → Int → Int × Int) (n : Int) : ∀ (l acc : V), (eachAcc f n l acc).2.length ≤ acc.length + l.length
  | [], acc => by rw [eachAcc]; simp
  | x :: t, acc => by
    rw [eachAcc]
    split
    · simp
    · have := each_len f n t (plusV acc x.1 (f x.2 n).1)
      have h2 : (plusV acc x.1 (f x.2 n).1).length ≤ acc.length + 1 := by
        unfold plusV
        split
        · omega
        · simp
      rw [List.length_cons]; omega
theorem each_short (f : Int → Int → Int × Int) (n : Int) (l : V) : (eachV f n l).2.length ≤ 1000000 := by
  unfold eachV
  by_cases h : checkV l ≠ 0
  · rw [if_pos h]; simp
  · rw [if_neg h]
    have := each_len f n l []
    have h8 := check_len (Decidable.of_not_not h)
    simp only [List.length_nil] at this
    omega
theorem spell2 {r : Int × V} (h : r.2.length ≤ 1000000) : ∃ c m, r = (c, m) ∧ m.length ≤ 1000000 := ⟨r.1, r.2, rfl, h⟩

set_option maxRecDepth 100000 in
set_option maxHeartbeats 8000000 in
theorem ResTwo_walk (v0 : Value) (l : V) (v1 : Value) (l' : V) (n : Int) (w : World) (hE : EnvT w) (h0 : Reads w v0 l) (h1 : Reads w v1 l') (hN0 : (Lit.int .i64 n).wf = true) :
    Calls Tryz.prog 3 #[v0, v1, .int .i64 n] w fun e w' => e = .returned (.bool true) ∧ Kept w w' := by
  have hN : -9223372036854775808 ≤ n ∧ n ≤ 9223372036854775807 := bounds_i64 hN0
  clear hN0
  have HK := Lib.hid (known_any w hE)
  have HE := Lib.hid hE
  have R0 := Lib.hid h0
  have R1 := Lib.hid h1
  have HN := Lib.hid hN
  clear hE h0 h1 hN
  by_cases hf : fewV l = true
  · have HF := Lib.hid hf
    clear hf
    by_cases hf : fewV l' = true
    · have HF' := Lib.hid hf
      clear hf
      obtain ⟨E, hE⟩ : ∃ E, checkV l = E := ⟨_, rfl⟩
      obtain ⟨E2, hE2⟩ : ∃ E, checkV l' = E := ⟨_, rfl⟩
      obtain ⟨z, hz⟩ : ∃ z, sameFrom l l' = z := ⟨_, rfl⟩
      obtain ⟨t, ht⟩ : ∃ t, textV l = t := ⟨_, rfl⟩
      obtain ⟨y, hy⟩ : ∃ y, fitsFrom l' l = y := ⟨_, rfl⟩
      obtain ⟨c1, m1, e1, s1⟩ := spell2 (merged_short addF l l')
      obtain ⟨c2, m2, e2, s2⟩ := spell2 (merged_short subF l l')
      obtain ⟨c3, m3, e3, s3⟩ := spell2 (each_short mulF n l)
      obtain ⟨c4, m4, e4, s4⟩ := spell2 (each_short partF n l)
      have HC := Lib.hid hE
      have HC2 := Lib.hid hE2
      have HZ := Lib.hid hz
      have HT := Lib.hid ht
      have HY := Lib.hid hy
      have A1 := Lib.hid e1
      have A2 := Lib.hid e2
      have A3 := Lib.hid e3
      have A4 := Lib.hid e4
      have S1 := Lib.hid s1
      have S2 := Lib.hid s2
      have S3 := Lib.hid s3
      have S4 := Lib.hid s4
      have hEE : (E == E) = true := beq_self_eq_true _
      have hzz : (z == z) = true := beq_self_eq_true _
      have hyy : (y == y) = true := beq_self_eq_true _
      have htt : ((bytes t).toList == (bytes t).toList) = true := beq_self_eq_true _
      clear hE hE2 hz ht hy e1 e2 e3 e4 s1 s2 s3 s4
      by_cases ze : E = 0
      · by_cases ze2 : E2 = 0
        · subst ze
          subst ze2
          go_enter Tryz.func3, Tryz.ntmps3
          go_wp2_with fail
          refine (HK.out).mono ?_
          rintro e w1 ⟨rfl, k⟩
          have K := Lib.hid (k)
          have R0 := Lib.hid (R0.out.kept k)
          have R1 := Lib.hid (R1.out.kept k)
          clear k
          go_wp2_with fail
          refine (fewR R0.out HF.out).mono ?_
          rintro e w2 ⟨rfl, rfl⟩
          go_wp2_with fail
          refine (fewR R1.out HF'.out).mono ?_
          rintro e w3 ⟨rfl, rfl⟩
          go_wp2_with fail
          refine (ofR R0.out HF.out).mono ?_
          rintro e w4 ⟨vx, rfl, r, k⟩
          have K := Lib.hid (K.out.trans k)
          have R0 := Lib.hid (R0.out.kept k)
          have R1 := Lib.hid (R1.out.kept k)
          have X := Lib.hid r
          clear r
          clear k
          go_wp2_with fail
          refine (ofR R1.out HF'.out).mono ?_
          rintro e w5 ⟨vy, rfl, r, k⟩
          have K := Lib.hid (K.out.trans k)
          have R0 := Lib.hid (R0.out.kept k)
          have R1 := Lib.hid (R1.out.kept k)
          have X := Lib.hid (X.out.kept k)
          have Y := Lib.hid r
          clear r
          clear k
          go_wp2_with fail
          refine (checkR R0.out HC.out).mono ?_
          rintro e w6 ⟨rfl, k⟩
          have K := Lib.hid (K.out.trans k)
          have R0 := Lib.hid (R0.out.kept k)
          have R1 := Lib.hid (R1.out.kept k)
          have X := Lib.hid (X.out.kept k)
          have Y := Lib.hid (Y.out.kept k)
          clear k
          go_wp2_with fail
          refine (refCheckR X.out HC.out).mono ?_
          rintro e w7 ⟨rfl, k⟩
          have K := Lib.hid (K.out.trans k)
          have R0 := Lib.hid (R0.out.kept k)
          have R1 := Lib.hid (R1.out.kept k)
          have X := Lib.hid (X.out.kept k)
          have Y := Lib.hid (Y.out.kept k)
          clear k
          go_wp2_with fail
          refine (sameR R0.out R1.out HZ.out).mono ?_
          rintro e w8 ⟨rfl, k⟩
          have K := Lib.hid (K.out.trans k)
          have R0 := Lib.hid (R0.out.kept k)
          have R1 := Lib.hid (R1.out.kept k)
          have X := Lib.hid (X.out.kept k)
          have Y := Lib.hid (Y.out.kept k)
          clear k
          go_wp2_with fail
          refine (rsameR X.out Y.out HZ.out).mono ?_
          rintro e w9 ⟨rfl, k⟩
          have K := Lib.hid (K.out.trans k)
          have R0 := Lib.hid (R0.out.kept k)
          have R1 := Lib.hid (R1.out.kept k)
          have X := Lib.hid (X.out.kept k)
          have Y := Lib.hid (Y.out.kept k)
          clear k
          go_wp2_with fail
          refine (textR (HE.out.kept K.out) R0.out HF.out HT.out).mono ?_
          rintro e w10 ⟨rfl, k⟩
          have K := Lib.hid (K.out.trans k)
          have R0 := Lib.hid (R0.out.kept k)
          have R1 := Lib.hid (R1.out.kept k)
          have X := Lib.hid (X.out.kept k)
          have Y := Lib.hid (Y.out.kept k)
          clear k
          go_wp2_with fail
          refine (rtextR X.out HF.out HT.out).mono ?_
          rintro e w11 ⟨rfl, k⟩
          have K := Lib.hid (K.out.trans k)
          have R0 := Lib.hid (R0.out.kept k)
          have R1 := Lib.hid (R1.out.kept k)
          have X := Lib.hid (X.out.kept k)
          have Y := Lib.hid (Y.out.kept k)
          clear k
          go_wp2_with fail
          refine (addR R0.out R1.out A1.out).mono ?_
          rintro e w12 ⟨p0, rfl, r, k⟩
          have K := Lib.hid (K.out.trans k)
          have R0 := Lib.hid (R0.out.kept k)
          have R1 := Lib.hid (R1.out.kept k)
          have X := Lib.hid (X.out.kept k)
          have Y := Lib.hid (Y.out.kept k)
          have P := Lib.hid r
          clear r
          clear k
          go_wp2_with fail
          refine (raddvR X.out Y.out A1.out).mono ?_
          rintro e w13 ⟨q0, rfl, r, k⟩
          have K := Lib.hid (K.out.trans k)
          have R0 := Lib.hid (R0.out.kept k)
          have R1 := Lib.hid (R1.out.kept k)
          have X := Lib.hid (X.out.kept k)
          have Y := Lib.hid (Y.out.kept k)
          have P := Lib.hid (P.out.kept k)
          have Q := Lib.hid r
          clear r
          clear k
          go_wp2_with fail
          refine (sameL P.out Q.out S1.out).mono ?_
          rintro e w14 ⟨rfl, k⟩
          have K := Lib.hid (K.out.trans k)
          have R0 := Lib.hid (R0.out.kept k)
          have R1 := Lib.hid (R1.out.kept k)
          have X := Lib.hid (X.out.kept k)
          have Y := Lib.hid (Y.out.kept k)
          have P := Lib.hid (P.out.kept k)
          have Q := Lib.hid (Q.out.kept k)
          clear k
          clear P Q
          go_wp2_with fail
          refine (subR R0.out R1.out A2.out).mono ?_
          rintro e w15 ⟨p1, rfl, r, k⟩
          have K := Lib.hid (K.out.trans k)
          have R0 := Lib.hid (R0.out.kept k)
          have R1 := Lib.hid (R1.out.kept k)
          have X := Lib.hid (X.out.kept k)
          have Y := Lib.hid (Y.out.kept k)
          have P := Lib.hid r
          clear r
          clear k
          go_wp2_with fail
          refine (rsubvR X.out Y.out A2.out).mono ?_
          rintro e w16 ⟨q1, rfl, r, k⟩
          have K := Lib.hid (K.out.trans k)
          have R0 := Lib.hid (R0.out.kept k)
          have R1 := Lib.hid (R1.out.kept k)
          have X := Lib.hid (X.out.kept k)
          have Y := Lib.hid (Y.out.kept k)
          have P := Lib.hid (P.out.kept k)
          have Q := Lib.hid r
          clear r
          clear k
          go_wp2_with fail
          refine (sameL P.out Q.out S2.out).mono ?_
          rintro e w17 ⟨rfl, k⟩
          have K := Lib.hid (K.out.trans k)
          have R0 := Lib.hid (R0.out.kept k)
          have R1 := Lib.hid (R1.out.kept k)
          have X := Lib.hid (X.out.kept k)
          have Y := Lib.hid (Y.out.kept k)
          have P := Lib.hid (P.out.kept k)
          have Q := Lib.hid (Q.out.kept k)
          clear k
          clear P Q
          go_wp2_with fail
          refine (mulR R0.out HN.out.1 HN.out.2 A3.out).mono ?_
          rintro e w18 ⟨p2, rfl, r, k⟩
          have K := Lib.hid (K.out.trans k)
          have R0 := Lib.hid (R0.out.kept k)
          have R1 := Lib.hid (R1.out.kept k)
          have X := Lib.hid (X.out.kept k)
          have Y := Lib.hid (Y.out.kept k)
          have P := Lib.hid r
          clear r
          clear k
          go_wp2_with fail
          refine (rtimesR X.out HN.out.1 HN.out.2 A3.out).mono ?_
          rintro e w19 ⟨q2, rfl, r, k⟩
          have K := Lib.hid (K.out.trans k)
          have R0 := Lib.hid (R0.out.kept k)
          have R1 := Lib.hid (R1.out.kept k)
          have X := Lib.hid (X.out.kept k)
          have Y := Lib.hid (Y.out.kept k)
          have P := Lib.hid (P.out.kept k)
          have Q := Lib.hid r
          clear r
          clear k
          go_wp2_with fail
          refine (sameL P.out Q.out S3.out).mono ?_
          rintro e w20 ⟨rfl, k⟩
          have K := Lib.hid (K.out.trans k)
          have R0 := Lib.hid (R0.out.kept k)
          have R1 := Lib.hid (R1.out.kept k)
          have X := Lib.hid (X.out.kept k)
          have Y := Lib.hid (Y.out.kept k)
          have P := Lib.hid (P.out.kept k)
          have Q := Lib.hid (Q.out.kept k)
          clear k
          clear P Q
          go_wp2_with fail
          refine (partR R0.out HN.out.1 HN.out.2 A4.out).mono ?_
          rintro e w21 ⟨p3, rfl, r, k⟩
          have K := Lib.hid (K.out.trans k)
          have R0 := Lib.hid (R0.out.kept k)
          have R1 := Lib.hid (R1.out.kept k)
          have X := Lib.hid (X.out.kept k)
          have Y := Lib.hid (Y.out.kept k)
          have P := Lib.hid r
          clear r
          clear k
          go_wp2_with fail
          refine (rpartsR X.out HN.out.1 HN.out.2 A4.out).mono ?_
          rintro e w22 ⟨q3, rfl, r, k⟩
          have K := Lib.hid (K.out.trans k)
          have R0 := Lib.hid (R0.out.kept k)
          have R1 := Lib.hid (R1.out.kept k)
          have X := Lib.hid (X.out.kept k)
          have Y := Lib.hid (Y.out.kept k)
          have P := Lib.hid (P.out.kept k)
          have Q := Lib.hid r
          clear r
          clear k
          go_wp2_with fail
          refine (sameL P.out Q.out S4.out).mono ?_
          rintro e w23 ⟨rfl, k⟩
          have K := Lib.hid (K.out.trans k)
          have R0 := Lib.hid (R0.out.kept k)
          have R1 := Lib.hid (R1.out.kept k)
          have X := Lib.hid (X.out.kept k)
          have Y := Lib.hid (Y.out.kept k)
          have P := Lib.hid (P.out.kept k)
          have Q := Lib.hid (Q.out.kept k)
          clear k
          clear P Q
          go_wp2_with fail
          refine (refCheckR X.out HC.out).mono ?_
          rintro e w24 ⟨rfl, k⟩
          have K := Lib.hid (K.out.trans k)
          have R0 := Lib.hid (R0.out.kept k)
          have R1 := Lib.hid (R1.out.kept k)
          have X := Lib.hid (X.out.kept k)
          have Y := Lib.hid (Y.out.kept k)
          clear k
          go_wp2_with fail
          refine (refCheckR Y.out HC2.out).mono ?_
          rintro e w25 ⟨rfl, k⟩
          have K := Lib.hid (K.out.trans k)
          have R0 := Lib.hid (R0.out.kept k)
          have R1 := Lib.hid (R1.out.kept k)
          have X := Lib.hid (X.out.kept k)
          have Y := Lib.hid (Y.out.kept k)
          clear k
          go_wp2_with fail
          refine (fitsR R0.out R1.out HY.out).mono ?_
          rintro e w26 ⟨rfl, k⟩
          have K := Lib.hid (K.out.trans k)
          have R0 := Lib.hid (R0.out.kept k)
          have R1 := Lib.hid (R1.out.kept k)
          have X := Lib.hid (X.out.kept k)
          have Y := Lib.hid (Y.out.kept k)
          clear k
          go_wp2_with fail
          refine (rfitsR X.out Y.out HY.out).mono ?_
          rintro e w27 ⟨rfl, k⟩
          have K := Lib.hid (K.out.trans k)
          have R0 := Lib.hid (R0.out.kept k)
          have R1 := Lib.hid (R1.out.kept k)
          have X := Lib.hid (X.out.kept k)
          have Y := Lib.hid (Y.out.kept k)
          clear k
          go_wp2
          go_ret
          exact ⟨rfl, K.out⟩
        · subst ze
          have ne : (E2 == 0) = false := by simpa using ze2
          have ne2 : ¬ E2 = 0 := ze2
          clear ze2
          go_enter Tryz.func3, Tryz.ntmps3
          go_wp2_with fail
          refine (HK.out).mono ?_
          rintro e w1 ⟨rfl, k⟩
          have K := Lib.hid (k)
          have R0 := Lib.hid (R0.out.kept k)
          have R1 := Lib.hid (R1.out.kept k)
          clear k
          go_wp2_with fail
          refine (fewR R0.out HF.out).mono ?_
          rintro e w2 ⟨rfl, rfl⟩
          go_wp2_with fail
          refine (fewR R1.out HF'.out).mono ?_
          rintro e w3 ⟨rfl, rfl⟩
          go_wp2_with fail
          refine (ofR R0.out HF.out).mono ?_
          rintro e w4 ⟨vx, rfl, r, k⟩
          have K := Lib.hid (K.out.trans k)
          have R0 := Lib.hid (R0.out.kept k)
          have R1 := Lib.hid (R1.out.kept k)
          have X := Lib.hid r
          clear r
          clear k
          go_wp2_with fail
          refine (ofR R1.out HF'.out).mono ?_
          rintro e w5 ⟨vy, rfl, r, k⟩
          have K := Lib.hid (K.out.trans k)
          have R0 := Lib.hid (R0.out.kept k)
          have R1 := Lib.hid (R1.out.kept k)
          have X := Lib.hid (X.out.kept k)
          have Y := Lib.hid r
          clear r
          clear k
          go_wp2_with fail
          refine (checkR R0.out HC.out).mono ?_
          rintro e w6 ⟨rfl, k⟩
          have K := Lib.hid (K.out.trans k)
          have R0 := Lib.hid (R0.out.kept k)
          have R1 := Lib.hid (R1.out.kept k)
          have X := Lib.hid (X.out.kept k)
          have Y := Lib.hid (Y.out.kept k)
          clear k
          go_wp2_with fail
          refine (refCheckR X.out HC.out).mono ?_
          rintro e w7 ⟨rfl, k⟩
          have K := Lib.hid (K.out.trans k)
          have R0 := Lib.hid (R0.out.kept k)
          have R1 := Lib.hid (R1.out.kept k)
          have X := Lib.hid (X.out.kept k)
          have Y := Lib.hid (Y.out.kept k)
          clear k
          go_wp2_with fail
          refine (sameR R0.out R1.out HZ.out).mono ?_
          rintro e w8 ⟨rfl, k⟩
          have K := Lib.hid (K.out.trans k)
          have R0 := Lib.hid (R0.out.kept k)
          have R1 := Lib.hid (R1.out.kept k)
          have X := Lib.hid (X.out.kept k)
          have Y := Lib.hid (Y.out.kept k)
          clear k
          go_wp2_with fail
          refine (rsameR X.out Y.out HZ.out).mono ?_
          rintro e w9 ⟨rfl, k⟩
          have K := Lib.hid (K.out.trans k)
          have R0 := Lib.hid (R0.out.kept k)
          have R1 := Lib.hid (R1.out.kept k)
          have X := Lib.hid (X.out.kept k)
          have Y := Lib.hid (Y.out.kept k)
          clear k
          go_wp2_with fail
          refine (textR (HE.out.kept K.out) R0.out HF.out HT.out).mono ?_
          rintro e w10 ⟨rfl, k⟩
          have K := Lib.hid (K.out.trans k)
          have R0 := Lib.hid (R0.out.kept k)
          have R1 := Lib.hid (R1.out.kept k)
          have X := Lib.hid (X.out.kept k)
          have Y := Lib.hid (Y.out.kept k)
          clear k
          go_wp2_with fail
          refine (rtextR X.out HF.out HT.out).mono ?_
          rintro e w11 ⟨rfl, k⟩
          have K := Lib.hid (K.out.trans k)
          have R0 := Lib.hid (R0.out.kept k)
          have R1 := Lib.hid (R1.out.kept k)
          have X := Lib.hid (X.out.kept k)
          have Y := Lib.hid (Y.out.kept k)
          clear k
          go_wp2_with fail
          refine (addR R0.out R1.out A1.out).mono ?_
          rintro e w12 ⟨p0, rfl, r, k⟩
          have K := Lib.hid (K.out.trans k)
          have R0 := Lib.hid (R0.out.kept k)
          have R1 := Lib.hid (R1.out.kept k)
          have X := Lib.hid (X.out.kept k)
          have Y := Lib.hid (Y.out.kept k)
          have P := Lib.hid r
          clear r
          clear k
          go_wp2_with fail
          refine (raddvR X.out Y.out A1.out).mono ?_
          rintro e w13 ⟨q0, rfl, r, k⟩
          have K := Lib.hid (K.out.trans k)
          have R0 := Lib.hid (R0.out.kept k)
          have R1 := Lib.hid (R1.out.kept k)
          have X := Lib.hid (X.out.kept k)
          have Y := Lib.hid (Y.out.kept k)
          have P := Lib.hid (P.out.kept k)
          have Q := Lib.hid r
          clear r
          clear k
          go_wp2_with fail
          refine (sameL P.out Q.out S1.out).mono ?_
          rintro e w14 ⟨rfl, k⟩
          have K := Lib.hid (K.out.trans k)
          have R0 := Lib.hid (R0.out.kept k)
          have R1 := Lib.hid (R1.out.kept k)
          have X := Lib.hid (X.out.kept k)
          have Y := Lib.hid (Y.out.kept k)
          have P := Lib.hid (P.out.kept k)
          have Q := Lib.hid (Q.out.kept k)
          clear k
          clear P Q
          go_wp2_with fail
          refine (subR R0.out R1.out A2.out).mono ?_
          rintro e w15 ⟨p1, rfl, r, k⟩
          have K := Lib.hid (K.out.trans k)
          have R0 := Lib.hid (R0.out.kept k)
          have R1 := Lib.hid (R1.out.kept k)
          have X := Lib.hid (X.out.kept k)
          have Y := Lib.hid (Y.out.kept k)
          have P := Lib.hid r
          clear r
          clear k
          go_wp2_with fail
          refine (rsubvR X.out Y.out A2.out).mono ?_
          rintro e w16 ⟨q1, rfl, r, k⟩
          have K := Lib.hid (K.out.trans k)
          have R0 := Lib.hid (R0.out.kept k)
          have R1 := Lib.hid (R1.out.kept k)
          have X := Lib.hid (X.out.kept k)
          have Y := Lib.hid (Y.out.kept k)
          have P := Lib.hid (P.out.kept k)
          have Q := Lib.hid r
          clear r
          clear k
          go_wp2_with fail
          refine (sameL P.out Q.out S2.out).mono ?_
          rintro e w17 ⟨rfl, k⟩
          have K := Lib.hid (K.out.trans k)
          have R0 := Lib.hid (R0.out.kept k)
          have R1 := Lib.hid (R1.out.kept k)
          have X := Lib.hid (X.out.kept k)
          have Y := Lib.hid (Y.out.kept k)
          have P := Lib.hid (P.out.kept k)
          have Q := Lib.hid (Q.out.kept k)
          clear k
          clear P Q
          go_wp2_with fail
          refine (mulR R0.out HN.out.1 HN.out.2 A3.out).mono ?_
          rintro e w18 ⟨p2, rfl, r, k⟩
          have K := Lib.hid (K.out.trans k)
          have R0 := Lib.hid (R0.out.kept k)
          have R1 := Lib.hid (R1.out.kept k)
          have X := Lib.hid (X.out.kept k)
          have Y := Lib.hid (Y.out.kept k)
          have P := Lib.hid r
          clear r
          clear k
          go_wp2_with fail
          refine (rtimesR X.out HN.out.1 HN.out.2 A3.out).mono ?_
          rintro e w19 ⟨q2, rfl, r, k⟩
          have K := Lib.hid (K.out.trans k)
          have R0 := Lib.hid (R0.out.kept k)
          have R1 := Lib.hid (R1.out.kept k)
          have X := Lib.hid (X.out.kept k)
          have Y := Lib.hid (Y.out.kept k)
          have P := Lib.hid (P.out.kept k)
          have Q := Lib.hid r
          clear r
          clear k
          go_wp2_with fail
          refine (sameL P.out Q.out S3.out).mono ?_
          rintro e w20 ⟨rfl, k⟩
          have K := Lib.hid (K.out.trans k)
          have R0 := Lib.hid (R0.out.kept k)
          have R1 := Lib.hid (R1.out.kept k)
          have X := Lib.hid (X.out.kept k)
          have Y := Lib.hid (Y.out.kept k)
          have P := Lib.hid (P.out.kept k)
          have Q := Lib.hid (Q.out.kept k)
          clear k
          clear P Q
          go_wp2_with fail
          refine (partR R0.out HN.out.1 HN.out.2 A4.out).mono ?_
          rintro e w21 ⟨p3, rfl, r, k⟩
          have K := Lib.hid (K.out.trans k)
          have R0 := Lib.hid (R0.out.kept k)
          have R1 := Lib.hid (R1.out.kept k)
          have X := Lib.hid (X.out.kept k)
          have Y := Lib.hid (Y.out.kept k)
          have P := Lib.hid r
          clear r
          clear k
          go_wp2_with fail
          refine (rpartsR X.out HN.out.1 HN.out.2 A4.out).mono ?_
          rintro e w22 ⟨q3, rfl, r, k⟩
          have K := Lib.hid (K.out.trans k)
          have R0 := Lib.hid (R0.out.kept k)
          have R1 := Lib.hid (R1.out.kept k)
          have X := Lib.hid (X.out.kept k)
          have Y := Lib.hid (Y.out.kept k)
          have P := Lib.hid (P.out.kept k)
          have Q := Lib.hid r
          clear r
          clear k
          go_wp2_with fail
          refine (sameL P.out Q.out S4.out).mono ?_
          rintro e w23 ⟨rfl, k⟩
          have K := Lib.hid (K.out.trans k)
          have R0 := Lib.hid (R0.out.kept k)
          have R1 := Lib.hid (R1.out.kept k)
          have X := Lib.hid (X.out.kept k)
          have Y := Lib.hid (Y.out.kept k)
          have P := Lib.hid (P.out.kept k)
          have Q := Lib.hid (Q.out.kept k)
          clear k
          clear P Q
          go_wp2_with fail
          refine (refCheckR X.out HC.out).mono ?_
          rintro e w24 ⟨rfl, k⟩
          have K := Lib.hid (K.out.trans k)
          have R0 := Lib.hid (R0.out.kept k)
          have R1 := Lib.hid (R1.out.kept k)
          have X := Lib.hid (X.out.kept k)
          have Y := Lib.hid (Y.out.kept k)
          clear k
          go_wp2_with fail
          refine (refCheckR Y.out HC2.out).mono ?_
          rintro e w25 ⟨rfl, k⟩
          have K := Lib.hid (K.out.trans k)
          have R0 := Lib.hid (R0.out.kept k)
          have R1 := Lib.hid (R1.out.kept k)
          have X := Lib.hid (X.out.kept k)
          have Y := Lib.hid (Y.out.kept k)
          clear k
          go_wp2
          go_ret
          exact ⟨rfl, K.out⟩
      · have ne : (E == 0) = false := by simpa using ze
        have ne2 : ¬ E = 0 := ze
        clear ze
        go_enter Tryz.func3, Tryz.ntmps3
        go_wp2_with fail
        refine (HK.out).mono ?_
        rintro e w1 ⟨rfl, k⟩
        have K := Lib.hid (k)
        have R0 := Lib.hid (R0.out.kept k)
        have R1 := Lib.hid (R1.out.kept k)
        clear k
        go_wp2_with fail
        refine (fewR R0.out HF.out).mono ?_
        rintro e w2 ⟨rfl, rfl⟩
        go_wp2_with fail
        refine (fewR R1.out HF'.out).mono ?_
        rintro e w3 ⟨rfl, rfl⟩
        go_wp2_with fail
        refine (ofR R0.out HF.out).mono ?_
        rintro e w4 ⟨vx, rfl, r, k⟩
        have K := Lib.hid (K.out.trans k)
        have R0 := Lib.hid (R0.out.kept k)
        have R1 := Lib.hid (R1.out.kept k)
        have X := Lib.hid r
        clear r
        clear k
        go_wp2_with fail
        refine (ofR R1.out HF'.out).mono ?_
        rintro e w5 ⟨vy, rfl, r, k⟩
        have K := Lib.hid (K.out.trans k)
        have R0 := Lib.hid (R0.out.kept k)
        have R1 := Lib.hid (R1.out.kept k)
        have X := Lib.hid (X.out.kept k)
        have Y := Lib.hid r
        clear r
        clear k
        go_wp2_with fail
        refine (checkR R0.out HC.out).mono ?_
        rintro e w6 ⟨rfl, k⟩
        have K := Lib.hid (K.out.trans k)
        have R0 := Lib.hid (R0.out.kept k)
        have R1 := Lib.hid (R1.out.kept k)
        have X := Lib.hid (X.out.kept k)
        have Y := Lib.hid (Y.out.kept k)
        clear k
        go_wp2_with fail
        refine (refCheckR X.out HC.out).mono ?_
        rintro e w7 ⟨rfl, k⟩
        have K := Lib.hid (K.out.trans k)
        have R0 := Lib.hid (R0.out.kept k)
        have R1 := Lib.hid (R1.out.kept k)
        have X := Lib.hid (X.out.kept k)
        have Y := Lib.hid (Y.out.kept k)
        clear k
        go_wp2_with fail
        refine (sameR R0.out R1.out HZ.out).mono ?_
        rintro e w8 ⟨rfl, k⟩
        have K := Lib.hid (K.out.trans k)
        have R0 := Lib.hid (R0.out.kept k)
        have R1 := Lib.hid (R1.out.kept k)
        have X := Lib.hid (X.out.kept k)
        have Y := Lib.hid (Y.out.kept k)
        clear k
        go_wp2_with fail
        refine (rsameR X.out Y.out HZ.out).mono ?_
        rintro e w9 ⟨rfl, k⟩
        have K := Lib.hid (K.out.trans k)
        have R0 := Lib.hid (R0.out.kept k)
        have R1 := Lib.hid (R1.out.kept k)
        have X := Lib.hid (X.out.kept k)
        have Y := Lib.hid (Y.out.kept k)
        clear k
        go_wp2_with fail
        refine (textR (HE.out.kept K.out) R0.out HF.out HT.out).mono ?_
        rintro e w10 ⟨rfl, k⟩
        have K := Lib.hid (K.out.trans k)
        have R0 := Lib.hid (R0.out.kept k)
        have R1 := Lib.hid (R1.out.kept k)
        have X := Lib.hid (X.out.kept k)
        have Y := Lib.hid (Y.out.kept k)
        clear k
        go_wp2_with fail
        refine (rtextR X.out HF.out HT.out).mono ?_
        rintro e w11 ⟨rfl, k⟩
        have K := Lib.hid (K.out.trans k)
        have R0 := Lib.hid (R0.out.kept k)
        have R1 := Lib.hid (R1.out.kept k)
        have X := Lib.hid (X.out.kept k)
        have Y := Lib.hid (Y.out.kept k)
        clear k
        go_wp2_with fail
        refine (addR R0.out R1.out A1.out).mono ?_
        rintro e w12 ⟨p0, rfl, r, k⟩
        have K := Lib.hid (K.out.trans k)
        have R0 := Lib.hid (R0.out.kept k)
        have R1 := Lib.hid (R1.out.kept k)
        have X := Lib.hid (X.out.kept k)
        have Y := Lib.hid (Y.out.kept k)
        have P := Lib.hid r
        clear r
        clear k
        go_wp2_with fail
        refine (raddvR X.out Y.out A1.out).mono ?_
        rintro e w13 ⟨q0, rfl, r, k⟩
        have K := Lib.hid (K.out.trans k)
        have R0 := Lib.hid (R0.out.kept k)
        have R1 := Lib.hid (R1.out.kept k)
        have X := Lib.hid (X.out.kept k)
        have Y := Lib.hid (Y.out.kept k)
        have P := Lib.hid (P.out.kept k)
        have Q := Lib.hid r
        clear r
        clear k
        go_wp2_with fail
        refine (sameL P.out Q.out S1.out).mono ?_
        rintro e w14 ⟨rfl, k⟩
        have K := Lib.hid (K.out.trans k)
        have R0 := Lib.hid (R0.out.kept k)
        have R1 := Lib.hid (R1.out.kept k)
        have X := Lib.hid (X.out.kept k)
        have Y := Lib.hid (Y.out.kept k)
        have P := Lib.hid (P.out.kept k)
        have Q := Lib.hid (Q.out.kept k)
        clear k
        clear P Q
        go_wp2_with fail
        refine (subR R0.out R1.out A2.out).mono ?_
        rintro e w15 ⟨p1, rfl, r, k⟩
        have K := Lib.hid (K.out.trans k)
        have R0 := Lib.hid (R0.out.kept k)
        have R1 := Lib.hid (R1.out.kept k)
        have X := Lib.hid (X.out.kept k)
        have Y := Lib.hid (Y.out.kept k)
        have P := Lib.hid r
        clear r
        clear k
        go_wp2_with fail
        refine (rsubvR X.out Y.out A2.out).mono ?_
        rintro e w16 ⟨q1, rfl, r, k⟩
        have K := Lib.hid (K.out.trans k)
        have R0 := Lib.hid (R0.out.kept k)
        have R1 := Lib.hid (R1.out.kept k)
        have X := Lib.hid (X.out.kept k)
        have Y := Lib.hid (Y.out.kept k)
        have P := Lib.hid (P.out.kept k)
        have Q := Lib.hid r
        clear r
        clear k
        go_wp2_with fail
        refine (sameL P.out Q.out S2.out).mono ?_
        rintro e w17 ⟨rfl, k⟩
        have K := Lib.hid (K.out.trans k)
        have R0 := Lib.hid (R0.out.kept k)
        have R1 := Lib.hid (R1.out.kept k)
        have X := Lib.hid (X.out.kept k)
        have Y := Lib.hid (Y.out.kept k)
        have P := Lib.hid (P.out.kept k)
        have Q := Lib.hid (Q.out.kept k)
        clear k
        clear P Q
        go_wp2_with fail
        refine (mulR R0.out HN.out.1 HN.out.2 A3.out).mono ?_
        rintro e w18 ⟨p2, rfl, r, k⟩
        have K := Lib.hid (K.out.trans k)
        have R0 := Lib.hid (R0.out.kept k)
        have R1 := Lib.hid (R1.out.kept k)
        have X := Lib.hid (X.out.kept k)
        have Y := Lib.hid (Y.out.kept k)
        have P := Lib.hid r
        clear r
        clear k
        go_wp2_with fail
        refine (rtimesR X.out HN.out.1 HN.out.2 A3.out).mono ?_
        rintro e w19 ⟨q2, rfl, r, k⟩
        have K := Lib.hid (K.out.trans k)
        have R0 := Lib.hid (R0.out.kept k)
        have R1 := Lib.hid (R1.out.kept k)
        have X := Lib.hid (X.out.kept k)
        have Y := Lib.hid (Y.out.kept k)
        have P := Lib.hid (P.out.kept k)
        have Q := Lib.hid r
        clear r
        clear k
        go_wp2_with fail
        refine (sameL P.out Q.out S3.out).mono ?_
        rintro e w20 ⟨rfl, k⟩
        have K := Lib.hid (K.out.trans k)
        have R0 := Lib.hid (R0.out.kept k)
        have R1 := Lib.hid (R1.out.kept k)
        have X := Lib.hid (X.out.kept k)
        have Y := Lib.hid (Y.out.kept k)
        have P := Lib.hid (P.out.kept k)
        have Q := Lib.hid (Q.out.kept k)
        clear k
        clear P Q
        go_wp2_with fail
        refine (partR R0.out HN.out.1 HN.out.2 A4.out).mono ?_
        rintro e w21 ⟨p3, rfl, r, k⟩
        have K := Lib.hid (K.out.trans k)
        have R0 := Lib.hid (R0.out.kept k)
        have R1 := Lib.hid (R1.out.kept k)
        have X := Lib.hid (X.out.kept k)
        have Y := Lib.hid (Y.out.kept k)
        have P := Lib.hid r
        clear r
        clear k
        go_wp2_with fail
        refine (rpartsR X.out HN.out.1 HN.out.2 A4.out).mono ?_
        rintro e w22 ⟨q3, rfl, r, k⟩
        have K := Lib.hid (K.out.trans k)
        have R0 := Lib.hid (R0.out.kept k)
        have R1 := Lib.hid (R1.out.kept k)
        have X := Lib.hid (X.out.kept k)
        have Y := Lib.hid (Y.out.kept k)
        have P := Lib.hid (P.out.kept k)
        have Q := Lib.hid r
        clear r
        clear k
        go_wp2_with fail
        refine (sameL P.out Q.out S4.out).mono ?_
        rintro e w23 ⟨rfl, k⟩
        have K := Lib.hid (K.out.trans k)
        have R0 := Lib.hid (R0.out.kept k)
        have R1 := Lib.hid (R1.out.kept k)
        have X := Lib.hid (X.out.kept k)
        have Y := Lib.hid (Y.out.kept k)
        have P := Lib.hid (P.out.kept k)
        have Q := Lib.hid (Q.out.kept k)
        clear k
        clear P Q
        go_wp2_with fail
        refine (refCheckR X.out HC.out).mono ?_
        rintro e w24 ⟨rfl, k⟩
        have K := Lib.hid (K.out.trans k)
        have R0 := Lib.hid (R0.out.kept k)
        have R1 := Lib.hid (R1.out.kept k)
        have X := Lib.hid (X.out.kept k)
        have Y := Lib.hid (Y.out.kept k)
        clear k
        go_wp2
        go_ret
        exact ⟨rfl, K.out⟩
    · have HF' := Lib.hid (show fewV l' = false by simpa using hf)
      clear hf
      go_enter Tryz.func3, Tryz.ntmps3
      go_wp2_with fail
      refine (HK.out).mono ?_
      rintro e w1 ⟨rfl, k⟩
      have K := Lib.hid (k)
      have R0 := Lib.hid (R0.out.kept k)
      have R1 := Lib.hid (R1.out.kept k)
      clear k
      go_wp2_with fail
      refine (fewR R0.out HF.out).mono ?_
      rintro e w2 ⟨rfl, rfl⟩
      go_wp2_with fail
      refine (fewR R1.out HF'.out).mono ?_
      rintro e w3 ⟨rfl, rfl⟩
      go_wp2
      go_ret
      exact ⟨rfl, K.out⟩
  · have HF := Lib.hid (show fewV l = false by simpa using hf)
    clear hf
    go_enter Tryz.func3, Tryz.ntmps3
    go_wp2_with fail
    refine (HK.out).mono ?_
    rintro e w1 ⟨rfl, k⟩
    have K := Lib.hid (k)
    have R0 := Lib.hid (R0.out.kept k)
    have R1 := Lib.hid (R1.out.kept k)
    clear k
    go_wp2_with fail
    refine (fewR R0.out HF.out).mono ?_
    rintro e w2 ⟨rfl, rfl⟩
    go_wp2
    go_ret
    exact ⟨rfl, K.out⟩

end Go.Proofs.YtfdahpcpcjhggaaGreatDoor.Vec
