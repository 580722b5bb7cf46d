/- PodTells: the walk. -/
import Derived.Test.YtflllkpnkcmegaaGreatDoorPodKnown
import Derived.Test.YtflllkpnkcmegaaGreatDoorPodFew
import Derived.Test.YtflllkpnkcmegaaGreatDoorPodLow
import Derived.Test.YtflllkpnkcmegaaGreatDoorPodOf
import Derived.Test.YtflllkpnkcmegaaGreatDoorPodRefChk
import Derived.Test.YtflllkpnkcmegaaGreatDoorPodTold
import Derived.Test.YtflllkpnkcmegaaGreatDoorPodEq
namespace Go.Proofs.YtflllkpnkcmegaaGreatDoor
open Go.RowKit
set_option linter.unusedVariables false

theorem vsame_iff : ∀ {l l' : Vec.V}, Vec.sameFrom l l' = true → l = l'
  | [], [], _ => rfl
  | [], _ :: _, h => by cases h
  | _ :: _, [], h => by cases h
  | x :: s, y :: t, h => by
    rw [Vec.sameFrom] at h
    simp only [Bool.and_eq_true, beq_iff_eq, decide_eq_true_eq] at h
    obtain ⟨⟨h1, h2⟩, h3⟩ := h
    rw [vsame_iff h3]
    congr 1
    exact Prod.ext (eqS_iff.1 h1) h2
theorem samePd_iff {n m : Pd} (h : samePd n m = true) : n = m := by
  unfold samePd at h
  simp only [Bool.and_eq_true, beq_iff_eq] at h
  obtain ⟨h0, h1, h2, h3, h4, h5, h6, h7, h8, h9, h10⟩ := h
  cases n; cases m
  simp only at h0 h1 h2 h3 h4 h5 h6 h7 h8 h9 h10
  rw [eqS_iff.1 h0, eqS_iff.1 h1, h2, vsame_iff h3, sameP_iff h4, sameT_iff h5, sameA_iff h6, eqS_iff.1 h7, h8, eqS_iff.1 h9, h10]
/-- Two that may be are told alike just where they are. -/
theorem told_same {n m : Pd} (hn : chkPod n = 0) (hm : chkPod m = 0) (fn : Vec.Fine n.need) (fm : Vec.Fine m.need) : eqS (textPd n) (textPd m) = samePd n m := by
  cases h : samePd n m with
  | true => rw [samePd_iff h]; exact eqS_self _
  | false =>
    cases g : eqS (textPd n) (textPd m) with
    | false => rfl
    | true =>
      have e := eqS_iff.1 g
      have a := textPd_says hn fn
      rw [e] at a
      rw [says_one a (textPd_says hm fm), samePd_self] at h
      cases h

set_option maxRecDepth 100000 in
set_option maxHeartbeats 16000000 in
theorem PodTells_walk (v0 : Value) (a : Pd) (v1 : Value) (b : Pd) (w : World) (hE : EnvP w) (h0 : PodR w v0 a) (h1 : PodR w v1 b) :
    Calls Tryz.prog 6 #[v0, v1] w fun e w' => e = .returned (.bool true) ∧ Kept w w' := by
  obtain ⟨va1, va2, va3, va4, rfl, ha⟩ := h0
  obtain ⟨vb1, vb2, vb3, vb4, rfl, hb⟩ := h1
  obtain ⟨a0, a1, a2, la1, la2, la3, la4, a3, a4, a5, a6⟩ := a
  obtain ⟨b0, b1, b2, lb1, lb2, lb3, lb4, b3, b4, b5, b6⟩ := b
  obtain ⟨W0, hW0⟩ : ∃ W0, (w.alloc (.cells #[.string a0, .string a1, .int .i64 a2, va1, va2, va3, va4, .string a3, .int .i64 a4, .string a5, .bool a6] 30)).alloc (.cells #[.string b0, .string b1, .int .i64 b2, vb1, vb2, vb3, vb4, .string b3, .int .i64 b4, .string b5, .bool b6] 30) = W0 := ⟨_, rfl⟩
  have hk0 : Kept w W0 := by rw [← hW0]; exact kept_two _ _ _
  have HC := Lib.hid (show ∀ W, Kept W0 W → W.cell? ⟨w.heap.size, 0, none⟩ = some (.string a0) ∧ W.cell? ⟨w.heap.size, 1, none⟩ = some (.string a1) ∧ W.cell? ⟨w.heap.size, 2, none⟩ = some (.int .i64 a2) ∧ W.cell? ⟨w.heap.size, 3, none⟩ = some (va1) ∧ W.cell? ⟨w.heap.size, 4, none⟩ = some (va2) ∧ W.cell? ⟨w.heap.size, 5, none⟩ = some (va3) ∧ W.cell? ⟨w.heap.size, 6, none⟩ = some (va4) ∧ W.cell? ⟨w.heap.size, 7, none⟩ = some (.string a3) ∧ W.cell? ⟨w.heap.size, 8, none⟩ = some (.int .i64 a4) ∧ W.cell? ⟨w.heap.size, 9, none⟩ = some (.string a5) ∧ W.cell? ⟨w.heap.size, 10, none⟩ = some (.bool a6) ∧ W.cell? ⟨(w.heap.size + 1), 0, none⟩ = some (.string b0) ∧ W.cell? ⟨(w.heap.size + 1), 1, none⟩ = some (.string b1) ∧ W.cell? ⟨(w.heap.size + 1), 2, none⟩ = some (.int .i64 b2) ∧ W.cell? ⟨(w.heap.size + 1), 3, none⟩ = some (vb1) ∧ W.cell? ⟨(w.heap.size + 1), 4, none⟩ = some (vb2) ∧ W.cell? ⟨(w.heap.size + 1), 5, none⟩ = some (vb3) ∧ W.cell? ⟨(w.heap.size + 1), 6, none⟩ = some (vb4) ∧ W.cell? ⟨(w.heap.size + 1), 7, none⟩ = some (.string b3) ∧ W.cell? ⟨(w.heap.size + 1), 8, none⟩ = some (.int .i64 b4) ∧ W.cell? ⟨(w.heap.size + 1), 9, none⟩ = some (.string b5) ∧ W.cell? ⟨(w.heap.size + 1), 10, none⟩ = some (.bool b6) from fun W k => by
    have c := freshN w (.string a0) [.string a1, .int .i64 a2, va1, va2, va3, va4, .string a3, .int .i64 a4, .string a5, .bool a6] 30 W (by rw [← hW0] at k; exact (kept_alloc _ _).trans k)
    have d := freshN (w.alloc (.cells #[.string a0, .string a1, .int .i64 a2, va1, va2, va3, va4, .string a3, .int .i64 a4, .string a5, .bool a6] 30)) (.string b0) [.string b1, .int .i64 b2, vb1, vb2, vb3, vb4, .string b3, .int .i64 b4, .string b5, .bool b6] 30 W (by rw [hW0]; exact k)
    rw [World.size_alloc] at d
    exact ⟨c.at_ 0 _ rfl, c.at_ 1 _ rfl, c.at_ 2 _ rfl, c.at_ 3 _ rfl, c.at_ 4 _ rfl, c.at_ 5 _ rfl, c.at_ 6 _ rfl, c.at_ 7 _ rfl, c.at_ 8 _ rfl, c.at_ 9 _ rfl, c.at_ 10 _ rfl, d.at_ 0 _ rfl, d.at_ 1 _ rfl, d.at_ 2 _ rfl, d.at_ 3 _ rfl, d.at_ 4 _ rfl, d.at_ 5 _ rfl, d.at_ 6 _ rfl, d.at_ 7 _ rfl, d.at_ 8 _ rfl, d.at_ 9 _ rfl, d.at_ 10 _ rfl⟩)
  have HKN := Lib.hid (Pk.known_any W0 (hE.kept hk0))
  have RA := Lib.hid (fun W (k : Kept W0 W) => show PodR W (.agg #[.string a0, .string a1, .int .i64 a2, va1, va2, va3, va4, .string a3, .int .i64 a4, .string a5, .bool a6]) ⟨a0, a1, a2, la1, la2, la3, la4, a3, a4, a5, a6⟩ from ⟨_, _, _, _, rfl, ha.kept (hk0.trans k)⟩)
  have RB := Lib.hid (fun W (k : Kept W0 W) => show PodR W (.agg #[.string b0, .string b1, .int .i64 b2, vb1, vb2, vb3, vb4, .string b3, .int .i64 b4, .string b5, .bool b6]) ⟨b0, b1, b2, lb1, lb2, lb3, lb4, b3, b4, b5, b6⟩ from ⟨_, _, _, _, rfl, hb.kept (hk0.trans k)⟩)
  have FNA := Lib.hid ha.need.fine
  have FNB := Lib.hid hb.need.fine
  have HE := Lib.hid (fun W (k : Kept W0 W) => (hE.kept (hk0.trans k)).toEnvT)
  have HK0 := Lib.hid hk0
  obtain ⟨fa, hfa⟩ : ∃ f, fewPd ⟨a0, a1, a2, la1, la2, la3, la4, a3, a4, a5, a6⟩ = f := ⟨_, rfl⟩
  obtain ⟨fb, hfb⟩ : ∃ f, fewPd ⟨b0, b1, b2, lb1, lb2, lb3, lb4, b3, b4, b5, b6⟩ = f := ⟨_, rfl⟩
  obtain ⟨ca, hca⟩ : ∃ f, chkPod ⟨a0, a1, a2, la1, la2, la3, la4, a3, a4, a5, a6⟩ = f := ⟨_, rfl⟩
  obtain ⟨cb, hcb⟩ : ∃ f, chkPod ⟨b0, b1, b2, lb1, lb2, lb3, lb4, b3, b4, b5, b6⟩ = f := ⟨_, rfl⟩
  have FA := Lib.hid hfa
  have FB := Lib.hid hfb
  have CA := Lib.hid hca
  have CB := Lib.hid hcb
  clear ha hb hk0 hE hfa hfb hca hcb
  unfold PodV
  dsimp only
  cases fa with
  | false =>
    obtain ⟨q0, q1, q2, q3, q4, q5, q6, q7, q8, q9, q10, q11, q12, q13, q14, q15, q16, q17, q18, q19, q20, q21⟩ := HC.out _ (Kept.refl _)
    go_enter Tryz.func6, Tryz.ntmps6
    go_wp2_with fail
    try rw [hW0]
    clear hW0
    refine (HKN.out).mono ?_
    rintro e w1 ⟨rfl, k⟩
    have K := Lib.hid k
    clear k q0 q1 q2 q3 q4 q5 q6 q7 q8 q9 q10 q11 q12 q13 q14 q15 q16 q17 q18 q19 q20 q21
    obtain ⟨q0, q1, q2, q3, q4, q5, q6, q7, q8, q9, q10, q11, q12, q13, q14, q15, q16, q17, q18, q19, q20, q21⟩ := HC.out _ K.out
    go_wp2_with fail
    refine (fewPdR (RA.out _ K.out) FA.out).mono ?_
    rintro e w2 ⟨rfl, k⟩
    have K := Lib.hid (K.out.trans k)
    clear k q0 q1 q2 q3 q4 q5 q6 q7 q8 q9 q10 q11 q12 q13 q14 q15 q16 q17 q18 q19 q20 q21
    obtain ⟨q0, q1, q2, q3, q4, q5, q6, q7, q8, q9, q10, q11, q12, q13, q14, q15, q16, q17, q18, q19, q20, q21⟩ := HC.out _ K.out
    go_wp2
    go_ret
    exact ⟨rfl, HK0.out.trans K.out⟩
  | true =>
    cases fb with
    | false =>
      obtain ⟨q0, q1, q2, q3, q4, q5, q6, q7, q8, q9, q10, q11, q12, q13, q14, q15, q16, q17, q18, q19, q20, q21⟩ := HC.out _ (Kept.refl _)
      go_enter Tryz.func6, Tryz.ntmps6
      go_wp2_with fail
      try rw [hW0]
      clear hW0
      refine (HKN.out).mono ?_
      rintro e w3 ⟨rfl, k⟩
      have K := Lib.hid k
      clear k q0 q1 q2 q3 q4 q5 q6 q7 q8 q9 q10 q11 q12 q13 q14 q15 q16 q17 q18 q19 q20 q21
      obtain ⟨q0, q1, q2, q3, q4, q5, q6, q7, q8, q9, q10, q11, q12, q13, q14, q15, q16, q17, q18, q19, q20, q21⟩ := HC.out _ K.out
      go_wp2_with fail
      refine (fewPdR (RA.out _ K.out) FA.out).mono ?_
      rintro e w4 ⟨rfl, k⟩
      have K := Lib.hid (K.out.trans k)
      clear k q0 q1 q2 q3 q4 q5 q6 q7 q8 q9 q10 q11 q12 q13 q14 q15 q16 q17 q18 q19 q20 q21
      obtain ⟨q0, q1, q2, q3, q4, q5, q6, q7, q8, q9, q10, q11, q12, q13, q14, q15, q16, q17, q18, q19, q20, q21⟩ := HC.out _ K.out
      go_wp2_with fail
      refine (fewPdR (RB.out _ K.out) FB.out).mono ?_
      rintro e w5 ⟨rfl, k⟩
      have K := Lib.hid (K.out.trans k)
      clear k q0 q1 q2 q3 q4 q5 q6 q7 q8 q9 q10 q11 q12 q13 q14 q15 q16 q17 q18 q19 q20 q21
      obtain ⟨q0, q1, q2, q3, q4, q5, q6, q7, q8, q9, q10, q11, q12, q13, q14, q15, q16, q17, q18, q19, q20, q21⟩ := HC.out _ K.out
      go_wp2
      go_ret
      exact ⟨rfl, HK0.out.trans K.out⟩
    | true =>
      by_cases za : ca = 0
      · subst za
        by_cases zb : cb = 0
        · subst zb
          have HT := Lib.hid (told_same CA.out CB.out FNA.out FNB.out)
          obtain ⟨ta, hta⟩ : ∃ t, textPd ⟨a0, a1, a2, la1, la2, la3, la4, a3, a4, a5, a6⟩ = t := ⟨_, rfl⟩
          obtain ⟨tb, htb⟩ : ∃ t, textPd ⟨b0, b1, b2, lb1, lb2, lb3, lb4, b3, b4, b5, b6⟩ = t := ⟨_, rfl⟩
          obtain ⟨sm, hsm⟩ : ∃ t, samePd ⟨a0, a1, a2, la1, la2, la3, la4, a3, a4, a5, a6⟩ ⟨b0, b1, b2, lb1, lb2, lb3, lb4, b3, b4, b5, b6⟩ = t := ⟨_, rfl⟩
          have TA := Lib.hid hta
          have TB := Lib.hid htb
          have SM := Lib.hid hsm
          rw [hta, htb, hsm] at HT
          have heq : (ta.toList == tb.toList) = sm := HT.out
          clear hta htb hsm HT
          obtain ⟨q0, q1, q2, q3, q4, q5, q6, q7, q8, q9, q10, q11, q12, q13, q14, q15, q16, q17, q18, q19, q20, q21⟩ := HC.out _ (Kept.refl _)
          go_enter Tryz.func6, Tryz.ntmps6
          go_wp2_with fail
          try rw [hW0]
          clear hW0
          refine (HKN.out).mono ?_
          rintro e w6 ⟨rfl, k⟩
          have K := Lib.hid k
          clear k q0 q1 q2 q3 q4 q5 q6 q7 q8 q9 q10 q11 q12 q13 q14 q15 q16 q17 q18 q19 q20 q21
          obtain ⟨q0, q1, q2, q3, q4, q5, q6, q7, q8, q9, q10, q11, q12, q13, q14, q15, q16, q17, q18, q19, q20, q21⟩ := HC.out _ K.out
          go_wp2_with fail
          refine (fewPdR (RA.out _ K.out) FA.out).mono ?_
          rintro e w7 ⟨rfl, k⟩
          have K := Lib.hid (K.out.trans k)
          clear k q0 q1 q2 q3 q4 q5 q6 q7 q8 q9 q10 q11 q12 q13 q14 q15 q16 q17 q18 q19 q20 q21
          obtain ⟨q0, q1, q2, q3, q4, q5, q6, q7, q8, q9, q10, q11, q12, q13, q14, q15, q16, q17, q18, q19, q20, q21⟩ := HC.out _ K.out
          go_wp2_with fail
          refine (fewPdR (RB.out _ K.out) FB.out).mono ?_
          rintro e w8 ⟨rfl, k⟩
          have K := Lib.hid (K.out.trans k)
          clear k q0 q1 q2 q3 q4 q5 q6 q7 q8 q9 q10 q11 q12 q13 q14 q15 q16 q17 q18 q19 q20 q21
          obtain ⟨q0, q1, q2, q3, q4, q5, q6, q7, q8, q9, q10, q11, q12, q13, q14, q15, q16, q17, q18, q19, q20, q21⟩ := HC.out _ K.out
          go_wp2_with fail
          refine (ofPdR (RA.out _ K.out) (few_lowP FA.out)).mono ?_
          rintro e w9 ⟨vo, rfl, ro, k⟩
          have K := Lib.hid (K.out.trans k)
          have RO := Lib.hid ro
          clear k ro q0 q1 q2 q3 q4 q5 q6 q7 q8 q9 q10 q11 q12 q13 q14 q15 q16 q17 q18 q19 q20 q21
          obtain ⟨q0, q1, q2, q3, q4, q5, q6, q7, q8, q9, q10, q11, q12, q13, q14, q15, q16, q17, q18, q19, q20, q21⟩ := HC.out _ K.out
          go_wp2_with fail
          refine (rcheckPdR RO.out CA.out).mono ?_
          rintro e w10 ⟨rfl, k⟩
          have K := Lib.hid (K.out.trans k)
          clear k RO q0 q1 q2 q3 q4 q5 q6 q7 q8 q9 q10 q11 q12 q13 q14 q15 q16 q17 q18 q19 q20 q21
          obtain ⟨q0, q1, q2, q3, q4, q5, q6, q7, q8, q9, q10, q11, q12, q13, q14, q15, q16, q17, q18, q19, q20, q21⟩ := HC.out _ K.out
          go_wp2_with fail
          refine (ofPdR (RB.out _ K.out) (few_lowP FB.out)).mono ?_
          rintro e w11 ⟨vo, rfl, ro, k⟩
          have K := Lib.hid (K.out.trans k)
          have RO := Lib.hid ro
          clear k ro q0 q1 q2 q3 q4 q5 q6 q7 q8 q9 q10 q11 q12 q13 q14 q15 q16 q17 q18 q19 q20 q21
          obtain ⟨q0, q1, q2, q3, q4, q5, q6, q7, q8, q9, q10, q11, q12, q13, q14, q15, q16, q17, q18, q19, q20, q21⟩ := HC.out _ K.out
          go_wp2_with fail
          refine (rcheckPdR RO.out CB.out).mono ?_
          rintro e w12 ⟨rfl, k⟩
          have K := Lib.hid (K.out.trans k)
          clear k RO q0 q1 q2 q3 q4 q5 q6 q7 q8 q9 q10 q11 q12 q13 q14 q15 q16 q17 q18 q19 q20 q21
          obtain ⟨q0, q1, q2, q3, q4, q5, q6, q7, q8, q9, q10, q11, q12, q13, q14, q15, q16, q17, q18, q19, q20, q21⟩ := HC.out _ K.out
          go_wp2
          refine wp_region_held_drew (S := fun W => W.cell? ⟨w.heap.size, 0, none⟩ = some (.string a0) ∧ W.cell? ⟨w.heap.size, 1, none⟩ = some (.string a1) ∧ W.cell? ⟨w.heap.size, 2, none⟩ = some (.int .i64 a2) ∧ W.cell? ⟨w.heap.size, 3, none⟩ = some (va1) ∧ W.cell? ⟨w.heap.size, 4, none⟩ = some (va2) ∧ W.cell? ⟨w.heap.size, 5, none⟩ = some (va3) ∧ W.cell? ⟨w.heap.size, 6, none⟩ = some (va4) ∧ W.cell? ⟨w.heap.size, 7, none⟩ = some (.string a3) ∧ W.cell? ⟨w.heap.size, 8, none⟩ = some (.int .i64 a4) ∧ W.cell? ⟨w.heap.size, 9, none⟩ = some (.string a5) ∧ W.cell? ⟨w.heap.size, 10, none⟩ = some (.bool a6) ∧ W.cell? ⟨(w.heap.size + 1), 0, none⟩ = some (.string b0) ∧ W.cell? ⟨(w.heap.size + 1), 1, none⟩ = some (.string b1) ∧ W.cell? ⟨(w.heap.size + 1), 2, none⟩ = some (.int .i64 b2) ∧ W.cell? ⟨(w.heap.size + 1), 3, none⟩ = some (vb1) ∧ W.cell? ⟨(w.heap.size + 1), 4, none⟩ = some (vb2) ∧ W.cell? ⟨(w.heap.size + 1), 5, none⟩ = some (vb3) ∧ W.cell? ⟨(w.heap.size + 1), 6, none⟩ = some (vb4) ∧ W.cell? ⟨(w.heap.size + 1), 7, none⟩ = some (.string b3) ∧ W.cell? ⟨(w.heap.size + 1), 8, none⟩ = some (.int .i64 b4) ∧ W.cell? ⟨(w.heap.size + 1), 9, none⟩ = some (.string b5) ∧ W.cell? ⟨(w.heap.size + 1), 10, none⟩ = some (.bool b6)) (by kernel_rfl) (HC.out _ (K.out.trans (Kept.drew _))) (fun hHeld => ?_)
          clear q0 q1 q2 q3 q4 q5 q6 q7 q8 q9 q10 q11 q12 q13 q14 q15 q16 q17 q18 q19 q20 q21
          refine wpAnyH_take (i := 0) (v := ?_) (by rw [List.getElem?_toArray]; exact rfl) (by kernel_rfl) (by kernel_rfl) (by kernel_rfl) (by exact fun _ _ _ h => h) (Or.inl ⟨by rfl, (by intro W hSw; obtain ⟨q0, q1, q2, q3, q4, q5, q6, q7, q8, q9, q10, q11, q12, q13, q14, q15, q16, q17, q18, q19, q20, q21⟩ := hSw; go_simp <;> with_reducible rfl)⟩) (by assumption) ?_
          try simp only [Act.put, List.setIfInBounds_toArray, List.set_cons_zero, List.set_cons_succ]
          refine wpAnyH_take (i := 2) (v := ?_) (by rw [List.getElem?_toArray]; exact rfl) (by kernel_rfl) (by kernel_rfl) (by kernel_rfl) (by exact fun _ _ _ h => h) (Or.inl ⟨by rfl, (by intro W hSw; obtain ⟨q0, q1, q2, q3, q4, q5, q6, q7, q8, q9, q10, q11, q12, q13, q14, q15, q16, q17, q18, q19, q20, q21⟩ := hSw; go_simp <;> with_reducible rfl)⟩) (by assumption) ?_
          try simp only [Act.put, List.setIfInBounds_toArray, List.set_cons_zero, List.set_cons_succ]
          refine wpAnyH_take (i := 5) (v := ?_) (by rw [List.getElem?_toArray]; exact rfl) (by kernel_rfl) (by kernel_rfl) (by kernel_rfl) (by exact fun _ _ _ h => h) (Or.inl ⟨by rfl, (by intro W hSw; obtain ⟨q0, q1, q2, q3, q4, q5, q6, q7, q8, q9, q10, q11, q12, q13, q14, q15, q16, q17, q18, q19, q20, q21⟩ := hSw; go_simp <;> with_reducible rfl)⟩) (by assumption) ?_
          try simp only [Act.put, List.setIfInBounds_toArray, List.set_cons_zero, List.set_cons_succ]
          refine wpAnyH_take (i := 6) (v := ?_) (by rw [List.getElem?_toArray]; exact rfl) (by kernel_rfl) (by kernel_rfl) (by kernel_rfl) (by exact fun _ _ _ h => h) (Or.inl ⟨by rfl, (by intro W hSw; obtain ⟨q0, q1, q2, q3, q4, q5, q6, q7, q8, q9, q10, q11, q12, q13, q14, q15, q16, q17, q18, q19, q20, q21⟩ := hSw; go_simp <;> with_reducible rfl)⟩) (by assumption) ?_
          try simp only [Act.put, List.setIfInBounds_toArray, List.set_cons_zero, List.set_cons_succ]
          refine wpAnyH_ready (rs := [1]) (by kernel_rfl) (by simp) (AllReadyH.cons (by rw [List.getElem?_toArray]; exact rfl) (fun K9 hK9 => ?_) AllReadyH.nil)
          go_simp
          refine (textPdR (HE.out _ (K.out.trans (Kept.drew _))) (RA.out _ (K.out.trans (Kept.drew _))) FA.out TA.out).mono ?_
          rintro e1 x1 ⟨rfl, k1⟩
          have J1 := Lib.hid ((Kept.drew w12).trans k1)
          clear k1
          refine hK9.out _ _ (HC.out _ (K.out.trans J1.out)) (fun hHeld1 => ?_)
          clear hK9 K9
          try simp only [Act.put, List.setIfInBounds_toArray, List.set_cons_zero, List.set_cons_succ]
          refine wpAnyH_ready (rs := [3]) (by kernel_rfl) (by simp) (AllReadyH.cons (by rw [List.getElem?_toArray]; exact rfl) (fun K9 hK9 => ?_) AllReadyH.nil)
          go_simp
          refine (textPdR (HE.out _ (K.out.trans J1.out)) (RB.out _ (K.out.trans J1.out)) FB.out TB.out).mono ?_
          rintro e2 x2 ⟨rfl, k1⟩
          have J2 := Lib.hid (J1.out.trans k1)
          clear k1
          refine hK9.out _ _ (HC.out _ (K.out.trans J2.out)) (fun hHeld2 => ?_)
          clear hK9 K9
          try simp only [Act.put, List.setIfInBounds_toArray, List.set_cons_zero, List.set_cons_succ]
          refine wpAnyH_take (i := 4) (v := ?_) (by rw [List.getElem?_toArray]; exact rfl) (by kernel_rfl) (by kernel_rfl) (by kernel_rfl) (by exact fun _ _ _ h => h) (Or.inl ⟨by rfl, (by intro W hSw; obtain ⟨q0, q1, q2, q3, q4, q5, q6, q7, q8, q9, q10, q11, q12, q13, q14, q15, q16, q17, q18, q19, q20, q21⟩ := hSw; go_simp <;> with_reducible rfl)⟩) (by assumption) ?_
          try simp only [Act.put, List.setIfInBounds_toArray, List.set_cons_zero, List.set_cons_succ]
          refine wpAnyH_ready (rs := [7]) (by kernel_rfl) (by simp) (AllReadyH.cons (by rw [List.getElem?_toArray]; exact rfl) (fun K9 hK9 => ?_) AllReadyH.nil)
          go_simp
          refine (samePodR (RA.out _ (K.out.trans J2.out)) (RB.out _ (K.out.trans J2.out)) SM.out).mono ?_
          rintro e3 x3 ⟨rfl, k1⟩
          have J3 := Lib.hid (J2.out.trans k1)
          clear k1
          refine hK9.out _ _ (HC.out _ (K.out.trans J3.out)) (fun hHeld3 => ?_)
          clear hK9 K9
          try simp only [Act.put, List.setIfInBounds_toArray, List.set_cons_zero, List.set_cons_succ]
          refine wpAnyH_take (i := 8) (v := ?_) (by rw [List.getElem?_toArray]; exact rfl) (by kernel_rfl) (by kernel_rfl) (by kernel_rfl) (by exact fun _ _ _ h => h) (Or.inl ⟨by rfl, (by intro W hSw; obtain ⟨q0, q1, q2, q3, q4, q5, q6, q7, q8, q9, q10, q11, q12, q13, q14, q15, q16, q17, q18, q19, q20, q21⟩ := hSw; go_simp <;> with_reducible rfl)⟩) (by assumption) ?_
          try simp only [Act.put, List.setIfInBounds_toArray, List.set_cons_zero, List.set_cons_succ]
          refine wpAnyH_take (i := 9) (v := ?_) (by rw [List.getElem?_toArray]; exact rfl) (by kernel_rfl) (by kernel_rfl) (by kernel_rfl) (by exact fun _ _ _ h => h) (Or.inl ⟨by rfl, (by intro W hSw; obtain ⟨q0, q1, q2, q3, q4, q5, q6, q7, q8, q9, q10, q11, q12, q13, q14, q15, q16, q17, q18, q19, q20, q21⟩ := hSw; go_simp <;> with_reducible rfl)⟩) (by assumption) ?_
          try simp only [Act.put, List.setIfInBounds_toArray, List.set_cons_zero, List.set_cons_succ]
          refine wpAnyH_done (by kernel_rfl) ?_ _
          go_wp2
          go_ret
          exact ⟨by simp, HK0.out.trans (K.out.trans J3.out)⟩
        · skip
          have z' : (cb != 0) = true := by simpa using zb
          clear zb
          obtain ⟨q0, q1, q2, q3, q4, q5, q6, q7, q8, q9, q10, q11, q12, q13, q14, q15, q16, q17, q18, q19, q20, q21⟩ := HC.out _ (Kept.refl _)
          go_enter Tryz.func6, Tryz.ntmps6
          go_wp2_with fail
          try rw [hW0]
          clear hW0
          refine (HKN.out).mono ?_
          rintro e w13 ⟨rfl, k⟩
          have K := Lib.hid k
          clear k q0 q1 q2 q3 q4 q5 q6 q7 q8 q9 q10 q11 q12 q13 q14 q15 q16 q17 q18 q19 q20 q21
          obtain ⟨q0, q1, q2, q3, q4, q5, q6, q7, q8, q9, q10, q11, q12, q13, q14, q15, q16, q17, q18, q19, q20, q21⟩ := HC.out _ K.out
          go_wp2_with fail
          refine (fewPdR (RA.out _ K.out) FA.out).mono ?_
          rintro e w14 ⟨rfl, k⟩
          have K := Lib.hid (K.out.trans k)
          clear k q0 q1 q2 q3 q4 q5 q6 q7 q8 q9 q10 q11 q12 q13 q14 q15 q16 q17 q18 q19 q20 q21
          obtain ⟨q0, q1, q2, q3, q4, q5, q6, q7, q8, q9, q10, q11, q12, q13, q14, q15, q16, q17, q18, q19, q20, q21⟩ := HC.out _ K.out
          go_wp2_with fail
          refine (fewPdR (RB.out _ K.out) FB.out).mono ?_
          rintro e w15 ⟨rfl, k⟩
          have K := Lib.hid (K.out.trans k)
          clear k q0 q1 q2 q3 q4 q5 q6 q7 q8 q9 q10 q11 q12 q13 q14 q15 q16 q17 q18 q19 q20 q21
          obtain ⟨q0, q1, q2, q3, q4, q5, q6, q7, q8, q9, q10, q11, q12, q13, q14, q15, q16, q17, q18, q19, q20, q21⟩ := HC.out _ K.out
          go_wp2_with fail
          refine (ofPdR (RA.out _ K.out) (few_lowP FA.out)).mono ?_
          rintro e w16 ⟨vo, rfl, ro, k⟩
          have K := Lib.hid (K.out.trans k)
          have RO := Lib.hid ro
          clear k ro q0 q1 q2 q3 q4 q5 q6 q7 q8 q9 q10 q11 q12 q13 q14 q15 q16 q17 q18 q19 q20 q21
          obtain ⟨q0, q1, q2, q3, q4, q5, q6, q7, q8, q9, q10, q11, q12, q13, q14, q15, q16, q17, q18, q19, q20, q21⟩ := HC.out _ K.out
          go_wp2_with fail
          refine (rcheckPdR RO.out CA.out).mono ?_
          rintro e w17 ⟨rfl, k⟩
          have K := Lib.hid (K.out.trans k)
          clear k RO q0 q1 q2 q3 q4 q5 q6 q7 q8 q9 q10 q11 q12 q13 q14 q15 q16 q17 q18 q19 q20 q21
          obtain ⟨q0, q1, q2, q3, q4, q5, q6, q7, q8, q9, q10, q11, q12, q13, q14, q15, q16, q17, q18, q19, q20, q21⟩ := HC.out _ K.out
          go_wp2_with fail
          refine (ofPdR (RB.out _ K.out) (few_lowP FB.out)).mono ?_
          rintro e w18 ⟨vo, rfl, ro, k⟩
          have K := Lib.hid (K.out.trans k)
          have RO := Lib.hid ro
          clear k ro q0 q1 q2 q3 q4 q5 q6 q7 q8 q9 q10 q11 q12 q13 q14 q15 q16 q17 q18 q19 q20 q21
          obtain ⟨q0, q1, q2, q3, q4, q5, q6, q7, q8, q9, q10, q11, q12, q13, q14, q15, q16, q17, q18, q19, q20, q21⟩ := HC.out _ K.out
          go_wp2_with fail
          refine (rcheckPdR RO.out CB.out).mono ?_
          rintro e w19 ⟨rfl, k⟩
          have K := Lib.hid (K.out.trans k)
          clear k RO q0 q1 q2 q3 q4 q5 q6 q7 q8 q9 q10 q11 q12 q13 q14 q15 q16 q17 q18 q19 q20 q21
          obtain ⟨q0, q1, q2, q3, q4, q5, q6, q7, q8, q9, q10, q11, q12, q13, q14, q15, q16, q17, q18, q19, q20, q21⟩ := HC.out _ K.out
          go_wp2
          go_ret
          exact ⟨rfl, HK0.out.trans K.out⟩
      · skip
        have z' : (ca != 0) = true := by simpa using za
        clear za
        obtain ⟨q0, q1, q2, q3, q4, q5, q6, q7, q8, q9, q10, q11, q12, q13, q14, q15, q16, q17, q18, q19, q20, q21⟩ := HC.out _ (Kept.refl _)
        go_enter Tryz.func6, Tryz.ntmps6
        go_wp2_with fail
        try rw [hW0]
        clear hW0
        refine (HKN.out).mono ?_
        rintro e w20 ⟨rfl, k⟩
        have K := Lib.hid k
        clear k q0 q1 q2 q3 q4 q5 q6 q7 q8 q9 q10 q11 q12 q13 q14 q15 q16 q17 q18 q19 q20 q21
        obtain ⟨q0, q1, q2, q3, q4, q5, q6, q7, q8, q9, q10, q11, q12, q13, q14, q15, q16, q17, q18, q19, q20, q21⟩ := HC.out _ K.out
        go_wp2_with fail
        refine (fewPdR (RA.out _ K.out) FA.out).mono ?_
        rintro e w21 ⟨rfl, k⟩
        have K := Lib.hid (K.out.trans k)
        clear k q0 q1 q2 q3 q4 q5 q6 q7 q8 q9 q10 q11 q12 q13 q14 q15 q16 q17 q18 q19 q20 q21
        obtain ⟨q0, q1, q2, q3, q4, q5, q6, q7, q8, q9, q10, q11, q12, q13, q14, q15, q16, q17, q18, q19, q20, q21⟩ := HC.out _ K.out
        go_wp2_with fail
        refine (fewPdR (RB.out _ K.out) FB.out).mono ?_
        rintro e w22 ⟨rfl, k⟩
        have K := Lib.hid (K.out.trans k)
        clear k q0 q1 q2 q3 q4 q5 q6 q7 q8 q9 q10 q11 q12 q13 q14 q15 q16 q17 q18 q19 q20 q21
        obtain ⟨q0, q1, q2, q3, q4, q5, q6, q7, q8, q9, q10, q11, q12, q13, q14, q15, q16, q17, q18, q19, q20, q21⟩ := HC.out _ K.out
        go_wp2_with fail
        refine (ofPdR (RA.out _ K.out) (few_lowP FA.out)).mono ?_
        rintro e w23 ⟨vo, rfl, ro, k⟩
        have K := Lib.hid (K.out.trans k)
        have RO := Lib.hid ro
        clear k ro q0 q1 q2 q3 q4 q5 q6 q7 q8 q9 q10 q11 q12 q13 q14 q15 q16 q17 q18 q19 q20 q21
        obtain ⟨q0, q1, q2, q3, q4, q5, q6, q7, q8, q9, q10, q11, q12, q13, q14, q15, q16, q17, q18, q19, q20, q21⟩ := HC.out _ K.out
        go_wp2_with fail
        refine (rcheckPdR RO.out CA.out).mono ?_
        rintro e w24 ⟨rfl, k⟩
        have K := Lib.hid (K.out.trans k)
        clear k RO q0 q1 q2 q3 q4 q5 q6 q7 q8 q9 q10 q11 q12 q13 q14 q15 q16 q17 q18 q19 q20 q21
        obtain ⟨q0, q1, q2, q3, q4, q5, q6, q7, q8, q9, q10, q11, q12, q13, q14, q15, q16, q17, q18, q19, q20, q21⟩ := HC.out _ K.out
        go_wp2
        go_ret
        exact ⟨rfl, HK0.out.trans K.out⟩

end Go.Proofs.YtflllkpnkcmegaaGreatDoor
