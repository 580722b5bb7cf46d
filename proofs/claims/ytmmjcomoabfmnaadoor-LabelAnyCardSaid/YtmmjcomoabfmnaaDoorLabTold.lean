/- What is told is parsed just so. -/
import Derived.Test.YtmmjcomoabfmnaaDoorLabBack
namespace Go.Proofs.YtmmjcomoabfmnaaDoor
open Go.RowKit
set_option linter.unusedVariables false

theorem signs_app : ∀ (x y : List UInt8), signsL (x ++ y) = signsL x + signsL y
  | [], y => by simp [signs_nil]
  | b :: t, y => by rw [List.cons_append, signs_cons, signs_cons, signs_app t y]; omega
theorem name_signs {x : ByteArray} (h : isName x = true) : signsL x.data.toList = 0 := by
  have hn := name_no h
  unfold signsL Lib.countByte
  rw [List.count_eq_zero.2 hn.1, List.count_eq_zero.2 hn.2.1]
theorem pair_told {x y : ByteArray} (hx : isName x = true) (hy : isName y = true) :
    (44 : UInt8) ∉ (pairB (x, y)).data.toList ∧ pairBad (pairB (x, y)).data.toList = false ∧ pairL (pairB (x, y)).data.toList = (x, y) := by
  have e : (pairB (x, y)).data.toList = x.data.toList ++ 58 :: y.data.toList := mid_data x y 58
  have nx := name_no hx
  have ny := name_no hy
  rw [e]
  refine ⟨by simp [nx.2.2, ny.2.2], ?_, ?_⟩
  · unfold pairBad
    rw [cut_mid _ nx.1, index_byte_one]
    simp [ny.1]
  · unfold pairL
    rw [cut_mid _ nx.1, bytes_data, bytes_data]
theorem prefix_name {x : ByteArray} (hx : isName x = true) (r : List UInt8) : Lib.hasPrefix (x.data.toList ++ r) [45] = false := by
  obtain ⟨b, t, e, hb⟩ := name_some hx
  rw [e, List.cons_append, prefix_cons]
  simpa using (ok_not hb).2.2.2
theorem term_told {t : Int × ByteArray × ByteArray} (h : chkT t = 0) :
    (44 : UInt8) ∉ (termB t).data.toList ∧ termBad (termB t).data.toList = false ∧ termL (termB t).data.toList = t ∧ 1 ≤ t.1 ∧ t.1 ≤ 4 := by
  obtain ⟨o, x, y⟩ := t
  rw [chkT_eq] at h
  by_cases h12 : o = 1 ∨ o = 2
  · rw [if_pos h12] at h
    have hn : (isName x && isName y) = true := by
      cases hc : (isName x && isName y) with
      | true => rfl
      | false => rw [hc] at h; simp at h
    rw [Bool.and_eq_true] at hn
    obtain ⟨hx, hy⟩ := hn
    have nx := name_no hx
    have ny := name_no hy
    have sx := name_signs hx
    have sy := name_signs hy
    have hne : x.data.toList ≠ [] := by obtain ⟨b, t, e, _⟩ := name_some hx; rw [e]; simp
    rcases h12 with rfl | rfl
    · have e : (termB (1, x, y)).data.toList = x.data.toList ++ 58 :: y.data.toList := mid_data x y 58
      have hp := prefix_name hx (58 :: y.data.toList)
      have hs : signsL (x.data.toList ++ 58 :: y.data.toList) = 1 := by rw [signs_app, signs_cons, sx, sy]; rfl
      rw [e]
      refine ⟨by simp [nx.2.2, ny.2.2], ?_, ?_, by show (1:Int) ≤ 1; omega, by show (1:Int) ≤ 4; omega⟩
      · unfold termBad; rw [hs, hp]; simp
      · unfold termL
        rw [if_neg (by rw [hp]; decide), if_neg (by rw [hs]; decide), cut_mid _ nx.1, if_pos rfl, bytes_data, bytes_data]
    · have e : (termB (2, x, y)).data.toList = x.data.toList ++ 33 :: y.data.toList := mid_data x y 33
      have hp := prefix_name hx (33 :: y.data.toList)
      have hs : signsL (x.data.toList ++ 33 :: y.data.toList) = 1 := by rw [signs_app, signs_cons, sx, sy]; rfl
      rw [e]
      refine ⟨by simp [nx.2.2, ny.2.2], ?_, ?_, by show (1:Int) ≤ 2; omega, by show (2:Int) ≤ 4; omega⟩
      · unfold termBad; rw [hs, hp]; simp
      · unfold termL
        rw [if_neg (by rw [hp]; decide), if_neg (by rw [hs]; decide), cut_none (c := 58) (by simp [nx.1, ny.1]), if_neg (by intro h; cases h), cut_mid _ nx.2.1, bytes_data, bytes_data]
  · rw [if_neg h12] at h
    by_cases h34 : o = 3 ∨ o = 4
    · rw [if_pos h34] at h
      have hn : (isName x && eqS y ByteArray.empty) = true := by
        cases hc : (isName x && eqS y ByteArray.empty) with
        | true => rfl
        | false => rw [hc] at h; simp at h
      rw [Bool.and_eq_true] at hn
      obtain ⟨hx, hy⟩ := hn
      have hy : y = ByteArray.empty := eqS_iff.1 hy
      subst hy
      have nx := name_no hx
      have sx := name_signs hx
      have hne : x.data.toList ≠ [] := by obtain ⟨b, t, e, _⟩ := name_some hx; rw [e]; simp
      rcases h34 with rfl | rfl
      · have e : (termB (3, x, ByteArray.empty)).data.toList = x.data.toList := rfl
        have hp := prefix_name hx []
        rw [List.append_nil] at hp
        rw [e]
        refine ⟨nx.2.2, ?_, ?_, by show (1:Int) ≤ 3; omega, by show (3:Int) ≤ 4; omega⟩
        · unfold termBad; rw [sx]; simp [hne]
        · unfold termL
          rw [if_neg (by rw [hp]; decide), if_pos sx, bytes_data]
      · have e : (termB (4, x, ByteArray.empty)).data.toList = 45 :: x.data.toList := by
          show ((⟨#[45]⟩ : ByteArray) ++ x).data.toList = _
          simp [ByteArray.data_append]
        have hp : Lib.hasPrefix (45 :: x.data.toList) [45] = true := by rw [prefix_cons]; rfl
        have hs : signsL (45 :: x.data.toList) = 0 := by rw [signs_cons, sx]; rfl
        rw [e]
        refine ⟨by simp [nx.2.2], ?_, ?_, by show (1:Int) ≤ 4; omega, by show (4:Int) ≤ 4; omega⟩
        · unfold termBad; rw [hs]; simp
        · unfold termL
          rw [if_pos hp]
          unfold Lib.trimPrefix
          rw [if_pos hp]
          show (4, bytes x.data.toList, ByteArray.empty) = _
          rw [bytes_data]
    · rw [if_neg h34] at h; cases h

theorem chk_names {s : PL} (h : chkS s = 0) : ∀ x ∈ s, isName x.1 = true ∧ isName x.2 = true := by
  have h2 : chkFrom none s = 0 := by
    unfold chkS at h
    split at h
    · cases h
    · exact h
  have key : ∀ (s : PL) (p : Option ByteArray), chkFrom p s = 0 → ∀ x ∈ s, isName x.1 = true ∧ isName x.2 = true := by
    intro s
    induction s with
    | nil => intro _ _ x hx; cases hx
    | cons y t ih =>
      intro p hc x hx
      unfold chkFrom at hc
      split at hc
      · cases hc
      · rename_i hn
        split at hc
        · cases hc
        · rcases List.mem_cons.1 hx with rfl | hx
          · have : (isName x.1 && isName x.2) = true := by simpa using hn
            rw [Bool.and_eq_true] at this; exact this
          · exact ih _ hc x hx
  exact key s none h2
theorem chk_terms {l : TL} (h : chkL l = 0) : ∀ t ∈ l, chkT t = 0 := by
  have h2 : chkLF l = 0 := by
    unfold chkL at h
    split at h
    · cases h
    · exact h
  have key : ∀ (l : TL), chkLF l = 0 → ∀ t ∈ l, chkT t = 0 := by
    intro l
    induction l with
    | nil => intro _ x hx; cases hx
    | cons y t ih =>
      intro hc x hx
      rw [chkLF_cons] at hc
      by_cases hy : chkT y ≠ 0
      · rw [if_pos hy] at hc; exact absurd hc hy
      · rw [if_neg hy] at hc
        rcases List.mem_cons.1 hx with rfl | hx
        · simpa using hy
        · exact ih hc x hx
  exact key l h2

theorem text_told {s : PL} (h : chkS s = 0) : parsedP (textS s).data.toList = (0, s) := by
  by_cases h0 : s = []
  · subst h0; rfl
  · have hn := chk_names h
    have e : textS s = joinB (s.map pairB) := by unfold textS; rw [if_neg h0]
    rw [e]
    refine told_parsed (chkS_len h) h0 h (fun x hx => pair_told (hn x hx).1 (hn x hx).2) ?_
    intro x hx h45
    have := (pair_told (hn x hx).1 (hn x hx).2).2.1
    rw [show pairB (x.1, x.2) = pairB x from rfl, h45] at this
    exact absurd this (by decide)
theorem selText_told {l : TL} (h : chkL l = 0) : parsedT (textL l).data.toList = (0, l) := by
  by_cases h0 : l = []
  · subst h0; rfl
  · have hn := chk_terms h
    have e : textL l = joinB (l.map termB) := by unfold textL; rw [if_neg h0]
    rw [e]
    refine told_parsed (chkL_len h) h0 h (fun x hx => ⟨(term_told (hn x hx)).1, (term_told (hn x hx)).2.1, (term_told (hn x hx)).2.2.1⟩) ?_
    intro x hx h45
    have h1 := (term_told (hn x hx)).2.2.1
    rw [h45] at h1
    have h2 : termL [45] = (4, bytes [], ByteArray.empty) := rfl
    rw [h2] at h1
    have h3 := hn x hx
    rw [← h1] at h3
    exact absurd h3 (by decide)

end Go.Proofs.YtmmjcomoabfmnaaDoor
