/- What is told is parsed just so, and what is parsed is told just so. -/
import Derived.Test.YthlhaefaafjmlaaDoorTaRefMath
import Derived.Test.YthlhaefaafjmlaaDoorTaReads
namespace Go.Proofs.YthlhaefaafjmlaaDoor
open Go.RowKit
set_option linter.unusedVariables false

theorem count_app (c : UInt8) (x y : List UInt8) : Lib.countByte (x ++ y) c = Lib.countByte x c + Lib.countByte y c := by unfold Lib.countByte; exact List.count_append
theorem count_none {c : UInt8} {x : List UInt8} (h : c ∉ x) : Lib.countByte x c = 0 := by unfold Lib.countByte; exact List.count_eq_zero.2 h
theorem name_last {x : ByteArray} (h : isName x = true) : ∃ u z, x.data.toList = u ++ [z] ∧ z ≠ 33 := by
  obtain ⟨b, t, e, _⟩ := name_some h
  have hne : x.data.toList ≠ [] := by rw [e]; simp
  refine ⟨_, _, (List.dropLast_concat_getLast hne).symm, ?_⟩
  intro hz
  exact (name_no h).2.1 (hz ▸ List.getLast_mem hne)

theorem taint_told {x y : ByteArray} {m : Bool} (hx : isName x = true) (hy : isName y = true) :
    (44 : UInt8) ∉ (taintB (x, y, m)).data.toList ∧ readABad (taintB (x, y, m)).data.toList = false ∧ readA (taintB (x, y, m)).data.toList = (x, y, m) ∧ (taintB (x, y, m)).data.toList ≠ [45] := by
  have nx := name_no hx
  have ny := name_no hy
  cases m with
  | true =>
    have e : (taintB (x, y, true)).data.toList = x.data.toList ++ 58 :: (y.data.toList ++ [33]) := by rw [taintB_yes]; simp [ByteArray.data_append]
    have hc : Lib.countByte (x.data.toList ++ 58 :: (y.data.toList ++ [33])) 58 = 1 := by
      rw [count_app, count_none nx.1, count_cons, count_app, count_none ny.1]; rfl
    have hcut := cut_mid (c := 58) (y.data.toList ++ [33]) nx.1
    rw [e]
    refine ⟨by simp [nx.2.2, ny.2.2], by unfold readABad; rw [hc]; decide, ?_, ?_⟩
    · rw [readA_mark hc (u := y.data.toList) (by rw [hcut]), hcut, bytes_data, bytes_data]
    · intro h; rw [h] at hc; exact absurd hc (by decide)
  | false =>
    have e : (taintB (x, y, false)).data.toList = x.data.toList ++ 58 :: y.data.toList := by rw [taintB_no]; exact mid_data x y 58
    have hc : Lib.countByte (x.data.toList ++ 58 :: y.data.toList) 58 = 1 := by
      rw [count_app, count_none nx.1, count_cons, count_none ny.1]; rfl
    have hcut := cut_mid (c := 58) y.data.toList nx.1
    obtain ⟨u, z, hu, hz⟩ := name_last hy
    rw [e]
    refine ⟨by simp [nx.2.2, ny.2.2], by unfold readABad; rw [hc]; decide, ?_, ?_⟩
    · rw [readA_plain hc (u := u) (z := z) (by rw [hcut, hu]) hz, hcut, ← hu, bytes_data, bytes_data]
    · intro h; rw [h] at hc; exact absurd hc (by decide)

theorem no_eq {s : ByteArray} (h : isNo s = true) : s = ByteArray.empty := eqS_iff.1 h
theorem star_told {x : ByteArray} (h : (isNo x || isName x) = true) :
    (58 : UInt8) ∉ (starB x).data.toList ∧ (44 : UInt8) ∉ (starB x).data.toList ∧ keyO (starB x).data.toList = x ∧ ∃ b t, (starB x).data.toList = b :: t ∧ b ≠ 58 ∧ b ≠ 45 := by
  cases hn : isNo x with
  | true =>
    have e : starB x = ⟨#[42]⟩ := by unfold starB; rw [hn]; rfl
    rw [e, no_eq hn]
    exact ⟨by decide, by decide, rfl, 42, [], rfl, by decide, by decide⟩
  | false =>
    rw [hn, Bool.false_or] at h
    have e : starB x = x := by unfold starB; rw [hn]; rfl
    have nx := name_no h
    obtain ⟨b, t, eb, hb⟩ := name_some h
    rw [e]
    refine ⟨nx.1, nx.2.2, ?_, b, t, eb, (ok_not hb).1, (ok_not hb).2.2.2⟩
    unfold keyO
    rw [if_neg, bytes_data]
    intro h42
    rw [h42] at eb
    have : b = 42 := by simpa using (List.cons.inj eb).1.symm
    subst this
    exact absurd hb (by decide)
theorem tol_told {x y : ByteArray} {m : Bool} (h : namedN (x, y, m) = true) :
    (44 : UInt8) ∉ (tolB (x, y, m)).data.toList ∧ readOBad (tolB (x, y, m)).data.toList = false ∧ readO (tolB (x, y, m)).data.toList = (x, y, m) ∧ (tolB (x, y, m)).data.toList ≠ [45] := by
  unfold namedN at h
  rw [Bool.and_eq_true] at h
  obtain ⟨h1, h2⟩ := h
  obtain ⟨s1, s2, s3, b, t, eb, hb, hb5⟩ := star_told h1
  cases m with
  | true =>
    have hy : y = ByteArray.empty := no_eq (by simpa using h2)
    subst hy
    have e : tolB (x, ByteArray.empty, true) = starB x := rfl
    rw [e]
    have hcut := cut_none s1
    refine ⟨s2, ?_, ?_, ?_⟩
    · unfold readOBad
      rw [count_none s1, eb, prefix_head]
      simp [hb]
    · unfold readO
      rw [hcut, s3]; rfl
    · intro h45; rw [h45] at eb; exact hb5 (List.cons.inj eb).1.symm
  | false =>
    have hy : isName y = true := by simpa using h2
    have ny := name_no hy
    have e : (tolB (x, y, false)).data.toList = (starB x).data.toList ++ 58 :: y.data.toList := mid_data (starB x) y 58
    rw [e]
    have hcut := cut_mid (c := 58) y.data.toList s1
    refine ⟨by simp [s2, ny.2.2], ?_, ?_, ?_⟩
    · unfold readOBad
      rw [count_app, count_none s1, count_cons, count_none ny.1, eb, List.cons_append, prefix_head]
      simp [hb]
    · unfold readO
      rw [hcut, s3, bytes_data]; rfl
    · intro h45
      rw [eb] at h45
      exact hb5 (List.cons.inj h45).1

theorem chkA_names {s : NL} (h : chkA s = 0) : ∀ x ∈ s, isName x.1 = true ∧ isName x.2.1 = true := by
  have h2 : chkAF [] s = 0 := by
    unfold chkA at h
    split at h
    · cases h
    · exact h
  have key : ∀ (s : NL) (p : NL), chkAF p s = 0 → ∀ x ∈ s, isName x.1 = true ∧ isName x.2.1 = true := by
    intro s
    induction s with
    | nil => intro _ _ x hx; cases hx
    | cons y t ih =>
      intro p hc x hx
      unfold chkAF at hc
      split at hc
      · cases hc
      · rename_i hn
        split at hc
        · cases hc
        · rcases List.mem_cons.1 hx with rfl | hx
          · have : (isName x.1 && isName x.2.1) = true := by simpa using hn
            rw [Bool.and_eq_true] at this; exact this
          · exact ih _ hc x hx
  exact key s [] h2
theorem chkO_named {s : NL} (h : chkO s = 0) : ∀ x ∈ s, namedN x = true := by
  unfold chkO at h
  split at h
  · cases h
  · split at h
    · rename_i h1; exact fun x hx => List.all_eq_true.1 h1 x hx
    · cases h
theorem chkA_len {l : NL} (h : chkA l = 0) : l.length ≤ 8 := by
  unfold chkA at h
  split at h
  · cases h
  · omega
theorem chkO_len {l : NL} (h : chkO l = 0) : l.length ≤ 8 := by
  unfold chkO at h
  split at h
  · cases h
  · omega

theorem textA_told {s : NL} (h : chkA s = 0) : parsedA (textA s).data.toList = (0, s) := by
  by_cases h0 : s = []
  · subst h0; rfl
  · have hn := chkA_names h
    have e : textA s = joinB (s.map taintB) := by unfold textA; rw [if_neg h0]
    rw [e]
    exact told_parsed (chkA_len h) h0 h (fun x hx => ⟨(taint_told (hn x hx).1 (hn x hx).2).1, (taint_told (hn x hx).1 (hn x hx).2).2.1, (taint_told (hn x hx).1 (hn x hx).2).2.2.1⟩) (fun x hx => (taint_told (hn x hx).1 (hn x hx).2).2.2.2)
theorem textO_told {s : NL} (h : chkO s = 0) : parsedO (textO s).data.toList = (0, s) := by
  by_cases h0 : s = []
  · subst h0; rfl
  · have hn := chkO_named h
    have e : textO s = joinB (s.map tolB) := by unfold textO; rw [if_neg h0]
    rw [e]
    exact told_parsed (chkO_len h) h0 h (fun x hx => ⟨(tol_told (hn x hx)).1, (tol_told (hn x hx)).2.1, (tol_told (hn x hx)).2.2.1⟩) (fun x hx => (tol_told (hn x hx)).2.2.2)

theorem taint_back {p : List UInt8} (h : readABad p = false) : taintB (readA p) = bytes p := by
  have hc : Lib.countByte p 58 = 1 := by unfold readABad at h; simpa using h
  have hb := cut_back 58 p (parts_two hc).1
  by_cases hv : (Lib.cut p [58]).2.1 = []
  · rw [readA_nil hc hv, taintB_no, bytes_mid]
    rw [hv] at hb; rw [hb]
  · obtain ⟨u, z, hz⟩ : ∃ u z, (Lib.cut p [58]).2.1 = u ++ [z] := ⟨_, _, (List.dropLast_concat_getLast hv).symm⟩
    rw [hz] at hb
    by_cases h33 : z = 33
    · subst h33
      rw [readA_mark hc hz, taintB_yes, bytes_mid]
      obtain ⟨kk, hkk⟩ : ∃ z, (Lib.cut p [58]).1 = z := ⟨_, rfl⟩
      rw [hkk] at hb ⊢
      apply Go.WideShapes.bytes_inj
      rw [← hb]
      simp [bytes, ByteArray.data_append]
    · rw [readA_plain hc hz h33, taintB_no, bytes_mid, hb]
theorem tol_back {p : List UInt8} (h : readOBad p = false) : tolB (readO p) = bytes p := by
  unfold readOBad at h
  rw [Bool.or_eq_false_iff, Bool.or_eq_false_iff] at h
  have hp0 : p ≠ [] := by simpa using h.1.1
  have hpre := h.1.2
  have hcnt : ¬ 1 < Lib.countByte p 58 := by simpa using h.2
  have hk : (Lib.cut p [58]).1 ≠ [] := by
    intro hk
    rcases (first_empty p).1 hk with g | g
    · exact hp0 g
    · rw [hpre] at g; cases g
  have hs : starB (keyO (Lib.cut p [58]).1) = bytes (Lib.cut p [58]).1 := by
    unfold keyO
    split
    · rename_i e; rw [e]; unfold starB; rw [if_pos (show isNo ByteArray.empty = true from eqS_self _)]; rfl
    · unfold starB
      rw [if_neg]
      rw [no_iff, bytes_toList]
      simpa using hk
  by_cases h1 : Lib.countByte p 58 = 1
  · have hf := (parts_two h1).1
    have hb := cut_back 58 p hf
    have e : readO p = (keyO (Lib.cut p [58]).1, bytes (Lib.cut p [58]).2.1, false) := by unfold readO; rw [hf]; rfl
    rw [e]
    show starB (keyO (Lib.cut p [58]).1) ++ ⟨#[58]⟩ ++ bytes (Lib.cut p [58]).2.1 = bytes p
    rw [hs, bytes_mid, hb]
  · have hl := (parts_lone (c := 58) (p := p) (by omega)).1
    have e : readO p = (keyO (Lib.cut p [58]).1, bytes (Lib.cut p [58]).2.1, true) := by unfold readO; rw [hl]; rfl
    rw [e]
    show starB (keyO (Lib.cut p [58]).1) = bytes p
    rw [hs, hl]

theorem textA_back {s : List UInt8} (h : (parsedA s).1 = 0) : textA (parsedA s).2 = bytes s := by
  have e := full_parsed (bad := readABad) (f := readA) chkA_long s
  unfold parsedA at h ⊢
  rw [← e] at h ⊢
  unfold fullG at h ⊢
  by_cases hd : s = [45]
  · rw [if_pos hd]; subst hd; rfl
  · rw [if_neg hd] at h ⊢
    by_cases ha : (partsOf s).any readABad = true
    · rw [if_pos ha] at h; cases h
    · rw [if_neg ha] at h ⊢
      by_cases hc : chkA ((partsOf s).map readA) ≠ 0
      · rw [if_pos hc] at h; exact absurd h hc
      · rw [if_neg hc]
        unfold textA
        rw [if_neg (by simp; exact partsOf_ne s), map_back (fun p hp => taint_back hp) s (by simpa using ha), joinB_parts]
theorem textO_back {s : List UInt8} (h : (parsedO s).1 = 0) : textO (parsedO s).2 = bytes s := by
  have e := full_parsed (bad := readOBad) (f := readO) chkO_long s
  unfold parsedO at h ⊢
  rw [← e] at h ⊢
  unfold fullG at h ⊢
  by_cases hd : s = [45]
  · rw [if_pos hd]; subst hd; rfl
  · rw [if_neg hd] at h ⊢
    by_cases ha : (partsOf s).any readOBad = true
    · rw [if_pos ha] at h; cases h
    · rw [if_neg ha] at h ⊢
      by_cases hc : chkO ((partsOf s).map readO) ≠ 0
      · rw [if_pos hc] at h; exact absurd h hc
      · rw [if_neg hc]
        unfold textO
        rw [if_neg (by simp; exact partsOf_ne s), map_back (fun p hp => tol_back hp) s (by simpa using ha), joinB_parts]

theorem parsedA_mid {s : List UInt8} (hs : s.length ≤ 900000) : ∀ x ∈ (parsedA s).2, x.1.size ≤ 900000 ∧ x.2.1.size ≤ 900000 := by
  intro x hx
  obtain ⟨p, hp, rfl⟩ := parsedG_mem hx
  have h0 := Lib.trimSuffix_le p [33]
  have h := cut_le (Lib.trimSuffix p [33]) [58]
  constructor
  · show (bytes _).size ≤ _; rw [bytes_size]; omega
  · show (bytes _).size ≤ _; rw [bytes_size]; omega
theorem parsedO_mid {s : List UInt8} (hs : s.length ≤ 900000) : ∀ x ∈ (parsedO s).2, x.1.size ≤ 900000 ∧ x.2.1.size ≤ 900000 := by
  intro x hx
  obtain ⟨p, hp, rfl⟩ := parsedG_mem hx
  have h := cut_le p [58]
  constructor
  · show (keyO _).size ≤ _
    unfold keyO
    split
    · exact Nat.zero_le _
    · rw [bytes_size]; omega
  · show (bytes _).size ≤ _; rw [bytes_size]; omega

end Go.Proofs.YthlhaefaafjmlaaDoor
