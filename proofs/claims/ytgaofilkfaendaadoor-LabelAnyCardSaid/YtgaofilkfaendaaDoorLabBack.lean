/- What is parsed is told just so. -/
import Derived.Test.YtgaofilkfaendaaDoorLabRefParseT
namespace Go.Proofs.YtgaofilkfaendaaDoor
open Go.RowKit
set_option linter.unusedVariables false

theorem join_cons2 (x y : List UInt8) (t : List (List UInt8)) : Lib.join (x :: y :: t) [44] = x ++ [44] ++ Lib.join (y :: t) [44] := by simp [Lib.join, List.intercalate]
theorem join_head (b : UInt8) (p : List UInt8) (ps : List (List UInt8)) : Lib.join ((b :: p) :: ps) [44] = b :: Lib.join (p :: ps) [44] := by
  cases ps with
  | nil => rw [Lib.join_one, Lib.join_one]
  | cons q qs => rw [join_cons2, join_cons2]; rfl
theorem join_parts : ∀ s : List UInt8, Lib.join (partsOf s) [44] = s
  | [] => by rw [partsOf, Lib.join_one]
  | b :: t => by
    have ih := join_parts t
    rw [partsOf_cons]
    by_cases h : b = 44
    · rw [if_pos h]
      cases hp : partsOf t with
      | nil => exact absurd hp (partsOf_ne t)
      | cons q qs => rw [hp] at ih; rw [join_cons2, ih, h]; rfl
    · rw [if_neg h]
      cases hp : partsOf t with
      | nil => exact absurd hp (partsOf_ne t)
      | cons q qs => rw [hp] at ih; dsimp only; rw [join_head, ih]
theorem joinB_parts (s : List UInt8) : joinB ((partsOf s).map bytes) = bytes s := by
  unfold joinB
  rw [List.map_map]
  have : ((fun x : ByteArray => x.data.toList) ∘ bytes) = id := by funext p; simp [bytes]
  rw [this, List.map_id, join_parts]; rfl

theorem cut_back (c : UInt8) : ∀ p : List UInt8, (Lib.cut p [c]).2.2 = true → (Lib.cut p [c]).1 ++ c :: (Lib.cut p [c]).2.1 = p
  | [], h => by rw [cut_nil] at h; cases h
  | b :: t, h => by
    rw [cut_cons] at h ⊢
    by_cases hb : b = c
    · rw [if_pos hb] at h ⊢; subst hb; rfl
    · rw [if_neg hb] at h ⊢
      have ih := cut_back c t h
      show b :: ((Lib.cut t [c]).1 ++ c :: (Lib.cut t [c]).2.1) = b :: t
      rw [ih]
theorem bytes_mid (x y : List UInt8) (c : UInt8) : bytes x ++ ⟨#[c]⟩ ++ bytes y = bytes (x ++ c :: y) := by
  apply Go.WideShapes.bytes_inj
  simp [bytes, ByteArray.data_append]
theorem pair_back {p : List UInt8} (h : pairBad p = false) : pairB (pairL p) = bytes p := by
  unfold pairBad at h
  rw [Bool.or_eq_false_iff] at h
  have h1 : (Lib.cut p [58]).2.2 = true := by simpa using h.1
  show bytes (Lib.cut p [58]).1 ++ ⟨#[58]⟩ ++ bytes (Lib.cut p [58]).2.1 = bytes p
  rw [bytes_mid, cut_back 58 p h1]
theorem term_back {p : List UInt8} (h : termBad p = false) : termB (termL p) = bytes p := by
  unfold termBad at h
  rw [Bool.or_eq_false_iff, Bool.or_eq_false_iff] at h
  obtain ⟨⟨h0, h1⟩, h2⟩ := h
  have h0 : p ≠ [] := by simpa using h0
  have h1 : ¬ 1 < signsL p := by simpa using h1
  by_cases hp : Lib.hasPrefix p [45] = true
  · have e : termL p = (4, bytes (Lib.trimPrefix p [45]), ByteArray.empty) := by unfold termL; rw [if_pos hp]
    rw [e]
    show (⟨#[45]⟩ : ByteArray) ++ bytes (Lib.trimPrefix p [45]) = bytes p
    cases p with
    | nil => exact absurd rfl h0
    | cons b t =>
      rw [prefix_cons] at hp
      have hb : b = 45 := by simpa using hp
      subst hb
      have et : Lib.trimPrefix (45 :: t) [45] = t := by unfold Lib.trimPrefix; rw [if_pos (by rw [prefix_cons]; rfl)]; rfl
      rw [et]
      apply Go.WideShapes.bytes_inj
      simp [bytes, ByteArray.data_append]
  · have hp' : Lib.hasPrefix p [45] = false := by simpa using hp
    by_cases hs : signsL p = 0
    · have e : termL p = (3, bytes p, ByteArray.empty) := by unfold termL; rw [if_neg hp, if_pos hs]
      rw [e]; rfl
    · have hs1 : signsL p = 1 := by omega
      obtain ⟨x, c, y, rfl, hc, hx, hy, hf⟩ := signs_one hs1
      have z1 := signs_zero hx
      have z2 := signs_zero hy
      unfold isSign at hc
      simp only [Bool.or_eq_true, beq_iff_eq] at hc
      rcases hc with rfl | rfl
      · have e : termL (x ++ 58 :: y) = (1, bytes x, bytes y) := by
          unfold termL; rw [if_neg hp, if_neg hs, cut_mid y z1.1]; rfl
        rw [e]
        show bytes x ++ ⟨#[58]⟩ ++ bytes y = _
        rw [bytes_mid]
      · have e : termL (x ++ 33 :: y) = (2, bytes x, bytes y) := by
          unfold termL; rw [if_neg hp, if_neg hs, cut_none (c := 58) (by simp [z1.1, z2.1]), if_neg (by intro h; cases h), cut_mid y z1.2]
        rw [e]
        show bytes x ++ ⟨#[33]⟩ ++ bytes y = _
        rw [bytes_mid]

theorem chkS_len {l : PL} (h : chkS l = 0) : l.length ≤ 8 := by
  unfold chkS at h
  split at h
  · cases h
  · omega
theorem chkL_len {l : TL} (h : chkL l = 0) : l.length ≤ 8 := by
  unfold chkL at h
  split at h
  · cases h
  · omega
theorem map_back {α : Type} {bad : List UInt8 → Bool} {f : List UInt8 → α} {g : α → ByteArray} (hb : ∀ p, bad p = false → g (f p) = bytes p) (s : List UInt8) (h : (partsOf s).any bad = false) : ((partsOf s).map f).map g = (partsOf s).map bytes := by
  rw [List.map_map]
  apply List.map_congr_left
  intro p hp
  rw [List.any_eq_false] at h
  exact hb p (by have := h p hp; simpa using this)
theorem text_back {s : List UInt8} (h : (parsedP s).1 = 0) : textS (parsedP s).2 = bytes s := by
  have e := full_parsed (bad := pairBad) (f := pairL) chkS_long s
  unfold parsedP at h ⊢
  rw [← e] at h ⊢
  unfold fullG at h ⊢
  by_cases hd : s = [45]
  · rw [if_pos hd]; subst hd; rfl
  · rw [if_neg hd] at h ⊢
    by_cases ha : (partsOf s).any pairBad = true
    · rw [if_pos ha] at h; cases h
    · rw [if_neg ha] at h ⊢
      by_cases hc : chkS ((partsOf s).map pairL) ≠ 0
      · rw [if_pos hc] at h; exact absurd h hc
      · rw [if_neg hc]
        unfold textS
        rw [if_neg (by simp; exact partsOf_ne s), map_back (fun p hp => pair_back hp) s (by simpa using ha), joinB_parts]
theorem selText_back {s : List UInt8} (h : (parsedT s).1 = 0) : textL (parsedT s).2 = bytes s := by
  have e := full_parsed (bad := termBad) (f := termL) chkL_long s
  unfold parsedT at h ⊢
  rw [← e] at h ⊢
  unfold fullG at h ⊢
  by_cases hd : s = [45]
  · rw [if_pos hd]; subst hd; rfl
  · rw [if_neg hd] at h ⊢
    by_cases ha : (partsOf s).any termBad = true
    · rw [if_pos ha] at h; cases h
    · rw [if_neg ha] at h ⊢
      by_cases hc : chkL ((partsOf s).map termL) ≠ 0
      · rw [if_pos hc] at h; exact absurd h hc
      · rw [if_neg hc]
        unfold textL
        rw [if_neg (by simp; exact partsOf_ne s), map_back (fun p hp => term_back hp) s (by simpa using ha), joinB_parts]

/-- What is parsed is short. -/
theorem parsedG_len {α : Type} {bad : List UInt8 → Bool} {f : List UInt8 → α} {chk : List α → Int} (s : List UInt8) : (parsedG bad f chk s).2.length ≤ 9 := by
  unfold parsedG
  split
  · simp
  · split
    · simp
    · split
      · simp
      · rw [List.length_take]; omega
theorem parsedG_mem {α : Type} {bad : List UInt8 → Bool} {f : List UInt8 → α} {chk : List α → Int} {s : List UInt8} {x : α} (h : x ∈ (parsedG bad f chk s).2) : ∃ p, p.length ≤ s.length ∧ x = f p := by
  unfold parsedG at h
  split at h
  · cases h
  · split at h
    · cases h
    · split at h
      · cases h
      · obtain ⟨p, hp, rfl⟩ := List.mem_map.1 (List.mem_of_mem_take h)
        exact ⟨p, part_len s p hp, rfl⟩
theorem parsedP_mid {s : List UInt8} (hs : s.length ≤ 1000000) : ∀ x ∈ (parsedP s).2, x.1.size ≤ 1000000 ∧ x.2.size ≤ 1000000 := by
  intro x hx
  obtain ⟨p, hp, rfl⟩ := parsedG_mem hx
  have h := cut_le p [58]
  constructor
  · show (bytes _).size ≤ _; rw [bytes_size]; omega
  · show (bytes _).size ≤ _; rw [bytes_size]; omega
theorem parsedT_mid {s : List UInt8} (hs : s.length ≤ 1000000) : ∀ x ∈ (parsedT s).2, x.2.1.size ≤ 1000000 ∧ x.2.2.size ≤ 1000000 := by
  intro x hx
  obtain ⟨p, hp, rfl⟩ := parsedG_mem hx
  have h := cut_le p [58]
  have h' := cut_le p [33]
  have h5 : (Lib.trimPrefix p [45]).length ≤ p.length := by unfold Lib.trimPrefix; split <;> simp
  have he : ByteArray.empty.size ≤ 1000000 := Nat.zero_le _
  have mk : ∀ q : List UInt8, q.length ≤ p.length → (bytes q).size ≤ 1000000 := fun q hq => by rw [bytes_size]; omega
  unfold termL
  split
  · exact ⟨mk _ h5, he⟩
  · split
    · exact ⟨mk _ (Nat.le_refl _), he⟩
    · split
      · exact ⟨mk _ h.1, mk _ h.2⟩
      · exact ⟨mk _ h'.1, mk _ h'.2⟩

end Go.Proofs.YtgaofilkfaendaaDoor
