/- Joined parts are parted again. -/
import Derived.Test.YtmmjcomoabfmnaaDoorGRefMath
namespace Go.Proofs.YtmmjcomoabfmnaaDoor
open Go.RowKit
set_option linter.unusedVariables false

theorem join_parts : ∀ s : List UInt8, Lib.join (partsOf s) [44] = s
  | [] => by rw [partsOf, Lib.join_one]
  | b :: t => by
    have ih := join_parts t
    rw [partsOf_cons]
    by_cases h : b = 44
    · rw [if_pos h]
      cases hp : partsOf t with
      | nil => exact absurd hp (partsOf_ne t)
      | cons q qs => rw [hp] at ih; rw [join_cons2, ih, h]; rfl
    · rw [if_neg h]
      cases hp : partsOf t with
      | nil => exact absurd hp (partsOf_ne t)
      | cons q qs => rw [hp] at ih; dsimp only; rw [join_head, ih]
theorem joinB_parts (s : List UInt8) : joinB ((partsOf s).map bytes) = bytes s := by
  unfold joinB
  rw [List.map_map]
  have : ((fun x : ByteArray => x.data.toList) ∘ bytes) = id := by funext p; simp [bytes]
  rw [this, List.map_id, join_parts]; rfl
theorem cut_back (c : UInt8) : ∀ p : List UInt8, (Lib.cut p [c]).2.2 = true → (Lib.cut p [c]).1 ++ c :: (Lib.cut p [c]).2.1 = p
  | [], h => by rw [cut_nil] at h; cases h
  | b :: t, h => by
    rw [cut_cons] at h ⊢
    by_cases hb : b = c
    · rw [if_pos hb] at h ⊢; subst hb; rfl
    · rw [if_neg hb] at h ⊢
      have ih := cut_back c t h
      show b :: ((Lib.cut t [c]).1 ++ c :: (Lib.cut t [c]).2.1) = b :: t
      rw [ih]
theorem bytes_mid (x y : List UInt8) (c : UInt8) : bytes x ++ ⟨#[c]⟩ ++ bytes y = bytes (x ++ c :: y) := by
  apply Go.WideShapes.bytes_inj
  simp [bytes, ByteArray.data_append]
theorem map_back {α : Type} {bad : List UInt8 → Bool} {f : List UInt8 → α} {g : α → ByteArray} (hb : ∀ p, bad p = false → g (f p) = bytes p) (s : List UInt8) (h : (partsOf s).any bad = false) : ((partsOf s).map f).map g = (partsOf s).map bytes := by
  rw [List.map_map]
  apply List.map_congr_left
  intro p hp
  rw [List.any_eq_false] at h
  exact hb p (by have := h p hp; simpa using this)
/-- What is parsed is short. -/
theorem parsedG_len {α : Type} {bad : List UInt8 → Bool} {f : List UInt8 → α} {chk : List α → Int} (s : List UInt8) : (parsedG bad f chk s).2.length ≤ 9 := by
  unfold parsedG
  split
  · simp
  · split
    · simp
    · split
      · simp
      · rw [List.length_take]; omega
theorem parsedG_mem {α : Type} {bad : List UInt8 → Bool} {f : List UInt8 → α} {chk : List α → Int} {s : List UInt8} {x : α} (h : x ∈ (parsedG bad f chk s).2) : ∃ p, p.length ≤ s.length ∧ x = f p := by
  unfold parsedG at h
  split at h
  · cases h
  · split at h
    · cases h
    · split at h
      · cases h
      · obtain ⟨p, hp, rfl⟩ := List.mem_map.1 (List.mem_of_mem_take h)
        exact ⟨p, part_len s p hp, rfl⟩
theorem parts_clean : ∀ {p : List UInt8}, (44 : UInt8) ∉ p → partsOf p = [p]
  | [], _ => rfl
  | b :: t, h => by
    rw [partsOf_cons, if_neg (by intro e; exact h (by simp [e])), parts_clean (p := t) (by intro e; exact h (by simp [e]))]
theorem parts_app : ∀ (x : List UInt8) (y : List UInt8), (44 : UInt8) ∉ x → partsOf (x ++ 44 :: y) = x :: partsOf y
  | [], y, _ => by rw [List.nil_append, partsOf_cons, if_pos rfl]
  | b :: t, y, h => by
    rw [List.cons_append, partsOf_cons, if_neg (by intro e; exact h (by simp [e])), parts_app t y (by intro e; exact h (by simp [e]))]
theorem parts_join : ∀ (ts : List (List UInt8)), ts ≠ [] → (∀ p ∈ ts, (44 : UInt8) ∉ p) → partsOf (Lib.join ts [44]) = ts
  | [], h, _ => absurd rfl h
  | [p], _, h => by rw [Lib.join_one]; exact parts_clean (h p (by simp))
  | p :: q :: t, _, h => by
    rw [join_cons2]
    have e : p ++ [44] ++ Lib.join (q :: t) [44] = p ++ 44 :: Lib.join (q :: t) [44] := by simp
    rw [e, parts_app _ _ (h p (by simp)), parts_join (q :: t) (by simp) (fun z hz => h z (by simp [hz]))]
theorem ok_not {b : UInt8} (h : okByte b = true) : b ≠ 58 ∧ b ≠ 33 ∧ b ≠ 44 ∧ b ≠ 45 := by
  rw [okByte_iff] at h
  refine ⟨?_, ?_, ?_, ?_⟩ <;> (rintro rfl; revert h; decide)
theorem name_bytes {x : ByteArray} (h : isName x = true) : ∀ b ∈ x.data.toList, okByte b = true := by
  unfold isName at h
  simp only [Bool.and_eq_true, decide_eq_true_eq] at h
  exact List.all_eq_true.1 h.2
theorem name_some {x : ByteArray} (h : isName x = true) : ∃ b t, x.data.toList = b :: t ∧ okByte b = true := by
  have hb := name_bytes h
  unfold isName at h
  simp only [Bool.and_eq_true, decide_eq_true_eq] at h
  cases hl : x.data.toList with
  | nil =>
    have : x.size = 0 := by rw [← ByteArray.size_data, ← Array.length_toList, hl]; rfl
    omega
  | cons b t => exact ⟨b, t, rfl, hb b (by rw [hl]; simp)⟩
theorem name_no {x : ByteArray} (h : isName x = true) : (58 : UInt8) ∉ x.data.toList ∧ (33 : UInt8) ∉ x.data.toList ∧ (44 : UInt8) ∉ x.data.toList := by
  have hb := name_bytes h
  exact ⟨fun e => (ok_not (hb _ e)).1 rfl, fun e => (ok_not (hb _ e)).2.1 rfl, fun e => (ok_not (hb _ e)).2.2.1 rfl⟩
theorem mid_data (x y : ByteArray) (c : UInt8) : (x ++ ⟨#[c]⟩ ++ y).data.toList = x.data.toList ++ c :: y.data.toList := by simp [ByteArray.data_append]
theorem told_parsed {α : Type} {bad : List UInt8 → Bool} {f : List UInt8 → α} {chk : List α → Int} {g : α → ByteArray} {l : List α} (hl : l.length ≤ 8) (hne : l ≠ []) (hc : chk l = 0)
    (hg : ∀ x ∈ l, (44 : UInt8) ∉ (g x).data.toList ∧ bad (g x).data.toList = false ∧ f (g x).data.toList = x) (hd : ∀ x ∈ l, (g x).data.toList ≠ [45]) :
    parsedG bad f chk (joinB (l.map g)).data.toList = (0, l) := by
  have e : (joinB (l.map g)).data.toList = Lib.join (l.map fun x => (g x).data.toList) [44] := by
    unfold joinB
    rw [List.map_map]; rfl
  have hp : partsOf (joinB (l.map g)).data.toList = l.map fun x => (g x).data.toList := by
    rw [e]
    refine parts_join _ (by simpa using hne) ?_
    intro p hp
    obtain ⟨x, hx, rfl⟩ := List.mem_map.1 hp
    exact (hg x hx).1
  have hm : ((partsOf (joinB (l.map g)).data.toList).map f).take 9 = l := by
    rw [hp, List.map_map]
    have : l.map (f ∘ fun x => (g x).data.toList) = l.map id := List.map_congr_left fun x hx => (hg x hx).2.2
    rw [this, List.map_id, List.take_of_length_le (by omega)]
  unfold parsedG
  rw [if_neg, if_neg, hm, if_neg (by rw [hc]; decide)]
  · rw [hp]
    simp only [List.any_map, List.any_eq_true, not_exists, not_and]
    intro x hx
    rw [Function.comp, (hg x hx).2.1]; decide
  · intro h45
    rw [h45] at hp
    have h1 : l.map (fun x => (g x).data.toList) = [[45]] := by rw [← hp]; rfl
    cases l with
    | nil => exact absurd rfl hne
    | cons x t =>
      have : (g x).data.toList = [45] := by simpa using (List.cons.inj h1).1
      exact hd x (by simp) this

end Go.Proofs.YtmmjcomoabfmnaaDoor
