/- A vector told, then parsed: the same. -/
import Derived.Test.YtflllkpnkcmegaaGreatDoorNodA
import Derived.Test.YtflllkpnkcmegaaGreatDoorResC
namespace Go.Proofs.YtflllkpnkcmegaaGreatDoor.Vec
open Go.RowKit Go.Proofs.YtflllkpnkcmegaaGreatDoor
set_option linter.unusedVariables false

theorem dig_ok : ∀ d, d < 10 → okDigit (UInt8.ofNat (48 + d)) = true ∧ (UInt8.ofNat (48 + d)).toNat - 48 = d := by decide
theorem dd_snoc {u : Nat} (h : ¬ u < 10) : Lib.decDigits u = Lib.decDigits (u / 10) ++ [UInt8.ofNat (48 + u % 10)] := by rw [Lib.decDigits, dif_neg h]
/-- A number's decimal is one, and tells it. -/
theorem dd_good : ∀ (n u : Nat), u ≤ n → (Lib.decDigits u).all okDigit = true ∧ valL (Lib.decDigits u) = u ∧ ∃ c t, Lib.decDigits u = c :: t ∧ (c = 48 → u = 0)
  | n, u, h => by
    by_cases h10 : u < 10
    · rw [Lib.decDigits, dif_pos h10]
      obtain ⟨d1, d2⟩ := dig_ok u h10
      refine ⟨by rw [List.all_cons, d1]; rfl, ?_, _, [], rfl, ?_⟩
      · show 0 * 10 + ((UInt8.ofNat (48 + u)).toNat - 48) = u
        omega
      · intro e
        rw [e] at d2
        have : (48 : UInt8).toNat - 48 = 0 := by decide
        omega
    · obtain ⟨n', rfl⟩ : ∃ m, n = m + 1 := ⟨n - 1, by omega⟩
      obtain ⟨i1, i2, c, t, i3, i4⟩ := dd_good n' (u / 10) (by omega)
      obtain ⟨d1, d2⟩ := dig_ok (u % 10) (Nat.mod_lt _ (by decide))
      rw [dd_snoc h10]
      refine ⟨by rw [List.all_append, i1, List.all_cons, d1]; rfl, ?_, c, t ++ [_], by rw [i3]; rfl, fun e => by have := i4 e; omega⟩
      show valFrom 0 (_ ++ [_]) = u
      rw [valFrom_snoc, d2]
      have : valFrom 0 (Lib.decDigits (u / 10)) = u / 10 := i2
      omega
theorem dd_dec (u : Nat) : isDecL (Lib.decDigits u) = true ∧ valL (Lib.decDigits u) = u := by
  obtain ⟨h1, h2, c, t, h3, h4⟩ := dd_good u u (Nat.le_refl _)
  refine ⟨?_, h2⟩
  rw [h3] at h1 ⊢
  rw [isDecL_cons, h1, Bool.and_true]
  by_cases e : c = 48
  · have hu := h4 e
    subst hu
    have : Lib.decDigits 0 = [48] := by rw [Lib.decDigits, dif_pos (by decide)]; rfl
    rw [this] at h3
    injection h3 with _ h5
    rw [← h5]; simp
  · have : (c == 48) = false := by simpa using e
    rw [this]; rfl
theorem dd_clean {u : Nat} {b : UInt8} (h : b ∈ Lib.decDigits u) : okDigit b = true := List.all_eq_true.1 (dd_good u u (Nat.le_refl _)).1 b h
/-- An amount's text. -/
def partOf (x : ByteArray × Int) : List UInt8 := x.1.data.toList ++ 61 :: Lib.itoa x.2
theorem name_eq {x : ByteArray} (h : isName x = true) : (61 : UInt8) ∉ x.data.toList := fun e => absurd (name_bytes h _ e) (by decide)
theorem part_told {x : ByteArray × Int} (hn : isName x.1 = true) (h0 : 0 < x.2) : amtOf (partOf x) = x ∧ isDecL (numOf' (partOf x)) = true ∧ valL (numOf' (partOf x)) = x.2.toNat ∧ (44 : UInt8) ∉ partOf x := by
  obtain ⟨nm, q⟩ := x
  dsimp only at hn h0
  obtain ⟨u, rfl⟩ : ∃ u : Nat, q = (u : Int) := ⟨q.toNat, by omega⟩
  have hc : Lib.cut (partOf (nm, (u : Int))) [61] = (nm.data.toList, Lib.itoa (u : Int), true) := cut_mid _ (name_eq hn)
  have hi : Lib.itoa (u : Int) = Lib.decDigits u := by unfold Lib.itoa; rw [if_neg (by omega)]; rfl
  have hnum : numOf' (partOf (nm, (u : Int))) = Lib.decDigits u := by unfold numOf'; rw [hc, ← hi]
  have hnam : nameOf (partOf (nm, (u : Int))) = nm.data.toList := by unfold nameOf; rw [hc]
  obtain ⟨d1, d2⟩ := dd_dec u
  refine ⟨?_, by rw [hnum]; exact d1, by rw [hnum, d2]; simp, ?_⟩
  · unfold amtOf
    rw [hnum, hnam, d2, bytes_data]
  · intro e
    unfold partOf at e
    rcases List.mem_append.1 e with e | e
    · exact (name_no hn).2.2 e
    · rcases List.mem_cons.1 e with e | e
      · exact absurd e (by decide)
      · rw [hi] at e
        exact absurd (dd_clean e) (by decide)
theorem chk_parts {l : V} (h : checkV l = 0) : ∀ x ∈ l, isName x.1 = true ∧ 0 < x.2 := by
  have h2 : checkFrom none l = 0 := by
    unfold checkV at h
    split at h
    · cases h
    · exact h
  have key : ∀ (l : V) (p : Option ByteArray), checkFrom p l = 0 → ∀ x ∈ l, isName x.1 = true ∧ 0 < x.2 := by
    intro l
    induction l with
    | nil => intro p _ x hx; cases hx
    | cons y t ih =>
      intro p hp x hx
      rw [checkFrom] at hp
      by_cases c1 : isName y.1 = false
      · rw [if_pos c1] at hp; cases hp
      · rw [if_neg c1] at hp
        by_cases c2 : y.2 ≤ 0
        · rw [if_pos c2] at hp; cases hp
        · rw [if_neg c2] at hp
          by_cases c3 : behindB p y.1 = true
          · rw [if_pos c3] at hp; cases hp
          · rw [if_neg c3] at hp
            rcases List.mem_cons.1 hx with rfl | hx
            · exact ⟨by simpa using c1, by omega⟩
            · exact ih _ hp x hx
  exact key l none h2
theorem parts_amts {l : V} (h : checkV l = 0) : (l.map partOf).map amtOf = l := by
  have hp := chk_parts h
  rw [List.map_map]
  refine (List.map_congr_left fun x hx => ?_).trans (List.map_id l)
  exact (part_told (hp x hx).1 (hp x hx).2).1
theorem text_join {l : V} (h : checkV l = 0) (h0 : l ≠ []) : textV l = Lib.join (l.map partOf) [44] := by
  have hp := chk_parts h
  have hm := parts_amts h
  have hd : ∀ p ∈ l.map partOf, isDecL (numOf' p) = true := by
    intro p hx
    obtain ⟨x, hxl, rfl⟩ := List.mem_map.1 hx
    exact (part_told (hp x hxl).1 (hp x hxl).2).2.1
  unfold textV
  rw [if_neg h0]
  cases l with
  | nil => exact absurd rfl h0
  | cons x t =>
    have := (joinFrom_more (t.map partOf) (fun p hx => hd p (List.mem_cons_of_mem _ hx)) (partOf x) (hd _ (List.mem_cons_self ..))).1
    rw [← List.map_cons] at this
    rw [hm] at this
    exact this
/-- A vector that may be, told, then parsed, is itself. -/
theorem text_told {l : V} (h : checkV l = 0) (hf : Fine l) : parseV (textV l) = (0, l) := by
  by_cases h0 : l = []
  · subst h0; rfl
  · have hp := chk_parts h
    have hl := check_len h
    have hm : (l.map partOf).map amtOf = l := by
      rw [List.map_map]
      refine (List.map_congr_left fun x hx => ?_).trans (List.map_id l)
      exact (part_told (hp x hx).1 (hp x hx).2).1
    have hd : ∀ p ∈ l.map partOf, isDecL (numOf' p) = true := by
      intro p hx
      obtain ⟨x, hxl, rfl⟩ := List.mem_map.1 hx
      exact (part_told (hp x hxl).1 (hp x hxl).2).2.1
    have hc : ∀ p ∈ l.map partOf, (44 : UInt8) ∉ p := by
      intro p hx
      obtain ⟨x, hxl, rfl⟩ := List.mem_map.1 hx
      exact (part_told (hp x hxl).1 (hp x hxl).2).2.2.2
    have ht : textV l = Lib.join (l.map partOf) [44] := by
      unfold textV
      rw [if_neg h0]
      cases l with
      | nil => exact absurd rfl h0
      | cons x t =>
        have := (joinFrom_more (t.map partOf) (fun p hx => hd p (List.mem_cons_of_mem _ hx)) (partOf x) (hd _ (List.mem_cons_self ..))).1
        rw [← List.map_cons] at this
        rw [hm] at this
        exact this
    have hps : partsOf (textV l) = l.map partOf := by rw [ht]; exact parts_join _ (by simpa using h0) hc
    have h45 : textV l ≠ [45] := by
      intro e
      rw [e] at hps
      cases l with
      | nil => exact h0 rfl
      | cons x t =>
        have e2 : partsOf [45] = [[45]] := rfl
        rw [e2, List.map_cons] at hps
        injection hps with e3 _
        have : (61 : UInt8) ∈ ([45] : List UInt8) := by rw [e3]; unfold partOf; simp
        exact absurd this (by decide)
    have hv : ∀ x ∈ l, x.2 ≤ 9223372036854775807 := fun x hx => by
      obtain ⟨i, hi⟩ := List.getElem?_of_mem hx
      have hlt := (List.getElem?_eq_some_iff.1 hi).1
      have := (hf i hlt).2.2
      unfold qn at this
      rw [List.getD, hi] at this
      exact this
    have hfb : formBad (l.map partOf) = false := by
      unfold formBad
      rw [List.any_eq_false]
      intro p hx
      rw [hd p hx]; decide
    have hob : overBad (l.map partOf) = false := by
      unfold overBad
      rw [List.any_eq_false]
      intro p hx
      obtain ⟨x, hxl, rfl⟩ := List.mem_map.1 hx
      rw [(part_told (hp x hxl).1 (hp x hxl).2).2.2.1]
      have := hv x hxl
      have := (hp x hxl).2
      simp; omega
    have htk : ((l.map partOf).map amtOf).take 9 = l := by rw [hm]; exact List.take_of_length_le (by omega)
    unfold parseV
    rw [if_neg h45]
    unfold parsedV
    rw [hps, hfb, if_neg (by decide), hob, if_neg (by decide), htk, h, if_neg (fun g => g rfl)]

end Go.Proofs.YtflllkpnkcmegaaGreatDoor.Vec
