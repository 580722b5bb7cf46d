/- What is parsed is told just so. -/
import Derived.Test.YtmmjcomoabfmnaaDoorGTold
import Derived.Test.YtmmjcomoabfmnaaDoorLabRefParseT
namespace Go.Proofs.YtmmjcomoabfmnaaDoor
open Go.RowKit
set_option linter.unusedVariables false

theorem pair_back {p : List UInt8} (h : pairBad p = false) : pairB (pairL p) = bytes p := by
  unfold pairBad at h
  rw [Bool.or_eq_false_iff] at h
  have h1 : (Lib.cut p [58]).2.2 = true := by simpa using h.1
  show bytes (Lib.cut p [58]).1 ++ ⟨#[58]⟩ ++ bytes (Lib.cut p [58]).2.1 = bytes p
  rw [bytes_mid, cut_back 58 p h1]
theorem term_back {p : List UInt8} (h : termBad p = false) : termB (termL p) = bytes p := by
  unfold termBad at h
  rw [Bool.or_eq_false_iff, Bool.or_eq_false_iff] at h
  obtain ⟨⟨h0, h1⟩, h2⟩ := h
  have h0 : p ≠ [] := by simpa using h0
  have h1 : ¬ 1 < signsL p := by simpa using h1
  by_cases hp : Lib.hasPrefix p [45] = true
  · have e : termL p = (4, bytes (Lib.trimPrefix p [45]), ByteArray.empty) := by unfold termL; rw [if_pos hp]
    rw [e]
    show (⟨#[45]⟩ : ByteArray) ++ bytes (Lib.trimPrefix p [45]) = bytes p
    cases p with
    | nil => exact absurd rfl h0
    | cons b t =>
      rw [prefix_cons] at hp
      have hb : b = 45 := by simpa using hp
      subst hb
      have et : Lib.trimPrefix (45 :: t) [45] = t := by unfold Lib.trimPrefix; rw [if_pos (by rw [prefix_cons]; rfl)]; rfl
      rw [et]
      apply Go.WideShapes.bytes_inj
      simp [bytes, ByteArray.data_append]
  · have hp' : Lib.hasPrefix p [45] = false := by simpa using hp
    by_cases hs : signsL p = 0
    · have e : termL p = (3, bytes p, ByteArray.empty) := by unfold termL; rw [if_neg hp, if_pos hs]
      rw [e]; rfl
    · have hs1 : signsL p = 1 := by omega
      obtain ⟨x, c, y, rfl, hc, hx, hy, hf⟩ := signs_one hs1
      have z1 := signs_zero hx
      have z2 := signs_zero hy
      unfold isSign at hc
      simp only [Bool.or_eq_true, beq_iff_eq] at hc
      rcases hc with rfl | rfl
      · have e : termL (x ++ 58 :: y) = (1, bytes x, bytes y) := by
          unfold termL; rw [if_neg hp, if_neg hs, cut_mid y z1.1]; rfl
        rw [e]
        show bytes x ++ ⟨#[58]⟩ ++ bytes y = _
        rw [bytes_mid]
      · have e : termL (x ++ 33 :: y) = (2, bytes x, bytes y) := by
          unfold termL; rw [if_neg hp, if_neg hs, cut_none (c := 58) (by simp [z1.1, z2.1]), if_neg (by intro h; cases h), cut_mid y z1.2]
        rw [e]
        show bytes x ++ ⟨#[33]⟩ ++ bytes y = _
        rw [bytes_mid]

theorem chkS_len {l : PL} (h : chkS l = 0) : l.length ≤ 8 := by
  unfold chkS at h
  split at h
  · cases h
  · omega
theorem chkL_len {l : TL} (h : chkL l = 0) : l.length ≤ 8 := by
  unfold chkL at h
  split at h
  · cases h
  · omega
theorem text_back {s : List UInt8} (h : (parsedP s).1 = 0) : textS (parsedP s).2 = bytes s := by
  have e := full_parsed (bad := pairBad) (f := pairL) chkS_long s
  unfold parsedP at h ⊢
  rw [← e] at h ⊢
  unfold fullG at h ⊢
  by_cases hd : s = [45]
  · rw [if_pos hd]; subst hd; rfl
  · rw [if_neg hd] at h ⊢
    by_cases ha : (partsOf s).any pairBad = true
    · rw [if_pos ha] at h; cases h
    · rw [if_neg ha] at h ⊢
      by_cases hc : chkS ((partsOf s).map pairL) ≠ 0
      · rw [if_pos hc] at h; exact absurd h hc
      · rw [if_neg hc]
        unfold textS
        rw [if_neg (by simp; exact partsOf_ne s), map_back (fun p hp => pair_back hp) s (by simpa using ha), joinB_parts]
theorem selText_back {s : List UInt8} (h : (parsedT s).1 = 0) : textL (parsedT s).2 = bytes s := by
  have e := full_parsed (bad := termBad) (f := termL) chkL_long s
  unfold parsedT at h ⊢
  rw [← e] at h ⊢
  unfold fullG at h ⊢
  by_cases hd : s = [45]
  · rw [if_pos hd]; subst hd; rfl
  · rw [if_neg hd] at h ⊢
    by_cases ha : (partsOf s).any termBad = true
    · rw [if_pos ha] at h; cases h
    · rw [if_neg ha] at h ⊢
      by_cases hc : chkL ((partsOf s).map termL) ≠ 0
      · rw [if_pos hc] at h; exact absurd h hc
      · rw [if_neg hc]
        unfold textL
        rw [if_neg (by simp; exact partsOf_ne s), map_back (fun p hp => term_back hp) s (by simpa using ha), joinB_parts]

theorem parsedP_mid {s : List UInt8} (hs : s.length ≤ 1000000) : ∀ x ∈ (parsedP s).2, x.1.size ≤ 1000000 ∧ x.2.size ≤ 1000000 := by
  intro x hx
  obtain ⟨p, hp, rfl⟩ := parsedG_mem hx
  have h := cut_le p [58]
  constructor
  · show (bytes _).size ≤ _; rw [bytes_size]; omega
  · show (bytes _).size ≤ _; rw [bytes_size]; omega
theorem parsedT_mid {s : List UInt8} (hs : s.length ≤ 1000000) : ∀ x ∈ (parsedT s).2, x.2.1.size ≤ 1000000 ∧ x.2.2.size ≤ 1000000 := by
  intro x hx
  obtain ⟨p, hp, rfl⟩ := parsedG_mem hx
  have h := cut_le p [58]
  have h' := cut_le p [33]
  have h5 : (Lib.trimPrefix p [45]).length ≤ p.length := by unfold Lib.trimPrefix; split <;> simp
  have he : ByteArray.empty.size ≤ 1000000 := Nat.zero_le _
  have mk : ∀ q : List UInt8, q.length ≤ p.length → (bytes q).size ≤ 1000000 := fun q hq => by rw [bytes_size]; omega
  unfold termL
  split
  · exact ⟨mk _ h5, he⟩
  · split
    · exact ⟨mk _ (Nat.le_refl _), he⟩
    · split
      · exact ⟨mk _ h.1, mk _ h.2⟩
      · exact ⟨mk _ h'.1, mk _ h'.2⟩

end Go.Proofs.YtmmjcomoabfmnaaDoor
