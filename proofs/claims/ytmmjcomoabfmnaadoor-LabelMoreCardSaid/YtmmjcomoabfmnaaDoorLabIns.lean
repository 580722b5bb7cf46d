/- Labels in their order; one more where it belongs. -/
import Derived.Test.YtmmjcomoabfmnaaDoorLabTold
namespace Go.Proofs.YtmmjcomoabfmnaaDoor
open Go.RowKit
set_option linter.unusedVariables false

theorem less_irrefl : ∀ s : List UInt8, Op.bytesLess s s = false
  | [] => rfl
  | a :: s => by
    have : ¬ a < a := UInt8.lt_irrefl a
    simp [Op.bytesLess, less_irrefl s, this]
theorem less_trans : ∀ {a b c : List UInt8}, Op.bytesLess a b = true → Op.bytesLess b c = true → Op.bytesLess a c = true
  | _, _, [], _, h => by simp [Op.bytesLess] at h
  | [], _, _ :: _, _, _ => by simp [Op.bytesLess]
  | x :: a, [], z :: c, h, _ => by simp [Op.bytesLess] at h
  | x :: a, y :: b, z :: c, h, g => by
    simp only [Op.bytesLess, Bool.or_eq_true, Bool.and_eq_true, decide_eq_true_eq, beq_iff_eq] at h g ⊢
    rcases h with h | ⟨rfl, h⟩
    · rcases g with g | ⟨rfl, g⟩
      · exact .inl (UInt8.lt_trans h g)
      · exact .inl h
    · rcases g with g | ⟨rfl, g⟩
      · exact .inl g
      · exact .inr ⟨rfl, less_trans h g⟩
theorem less_tri : ∀ {a b : List UInt8}, Op.bytesLess a b = false → Op.bytesLess b a = false → a = b
  | [], [], _, _ => rfl
  | [], _ :: _, h, _ => by simp [Op.bytesLess] at h
  | _ :: _, [], _, h => by simp [Op.bytesLess] at h
  | x :: a, y :: b, h, g => by
    simp only [Op.bytesLess, Bool.or_eq_false_iff, decide_eq_false_iff_not, Bool.and_eq_false_iff, beq_eq_false_iff_ne] at h g
    have e : x = y := by
      have h1 := UInt8.not_lt.1 h.1
      have h2 := UInt8.not_lt.1 g.1
      exact UInt8.le_antisymm h2 h1
    subst e
    have h2 := h.2.resolve_left (by simp)
    have g2 := g.2.resolve_left (by simp)
    rw [less_tri h2 g2]

theorem lt_of (s t : ByteArray) : ltS s t = Op.bytesLess s.data.toList t.data.toList := by unfold ltS; rw [Lib.toList_data, Lib.toList_data]
theorem lt_irrefl' (s : ByteArray) : ltS s s = false := by rw [lt_of]; exact less_irrefl _
theorem lt_trans' {s t u : ByteArray} (h : ltS s t = true) (g : ltS t u = true) : ltS s u = true := by
  rw [lt_of] at *; exact less_trans h g
theorem lt_tri' {s t : ByteArray} (h : ltS s t = false) (g : ltS t s = false) : s = t := by
  rw [lt_of] at *; exact Go.WideShapes.bytes_inj (less_tri h g)
theorem lt_asymm' {s t : ByteArray} (h : ltS s t = true) : ltS t s = false := by
  cases g : ltS t s with
  | false => rfl
  | true => have := lt_trans' h g; rw [lt_irrefl'] at this; cases this
theorem lt_not_eq {s t : ByteArray} (h : ltS s t = true) : eqS s t = false := by
  cases g : eqS s t with
  | false => rfl
  | true => rw [eqS_iff.1 g, lt_irrefl'] at h; cases h
theorem lt_other {s t : ByteArray} (h : ltS s t = false) (g : s ≠ t) : ltS t s = true := by
  cases g' : ltS t s with
  | true => rfl
  | false => exact absurd (lt_tri' h g') g
theorem le_false {s t : ByteArray} (h : ltS t s = true) : leS s t = false := by
  unfold leS
  have h2 : eqS s t = false := by
    cases g : eqS s t with
    | false => rfl
    | true => rw [eqS_iff.1 g, lt_irrefl'] at h; cases h
  rw [lt_asymm' h, h2]; rfl
theorem lt_le {s t : ByteArray} (h : leS s t = false) : ltS t s = true := by
  unfold leS at h
  rw [Bool.or_eq_false_iff] at h
  exact lt_other h.1 (fun e => by have := h.2; rw [e, eqS_self] at this; cases this)

abbrev Srt (s : PL) : Prop := s.Pairwise fun x y => ltS x.1 y.1 = true
theorem chk_srt : ∀ (s : PL) (p : ByteArray), chkFrom (some p) s = 0 → (∀ x ∈ s, ltS p x.1 = true) ∧ Srt s
  | [], p, _ => ⟨fun x hx => (by cases hx), .nil⟩
  | y :: t, p, h => by
    unfold chkFrom at h
    split at h
    · cases h
    · split at h
      · cases h
      · rename_i hb
        have hb : leS y.1 p = false := by simpa [behindB] using hb
        have hp := lt_le hb
        obtain ⟨h1, h2⟩ := chk_srt t y.1 h
        refine ⟨fun x hx => ?_, List.pairwise_cons.2 ⟨fun x hx => h1 x hx, h2⟩⟩
        rcases List.mem_cons.1 hx with rfl | hx
        · exact hp
        · exact lt_trans' hp (h1 x hx)
theorem chkS_srt {s : PL} (h : chkS s = 0) : Srt s := by
  unfold chkS at h
  split at h
  · cases h
  · cases s with
    | nil => exact .nil
    | cons y t =>
      unfold chkFrom at h
      split at h
      · cases h
      · split at h
        · cases h
        · obtain ⟨h1, h2⟩ := chk_srt t y.1 h
          exact List.pairwise_cons.2 ⟨fun x hx => h1 x hx, h2⟩
theorem srt_chk : ∀ (s : PL) (p : ByteArray), (∀ x ∈ s, isName x.1 = true ∧ isName x.2 = true) → (∀ x ∈ s, ltS p x.1 = true) → Srt s → chkFrom (some p) s = 0
  | [], p, _, _, _ => rfl
  | y :: t, p, hn, hp, hs => by
    have hy := hn y (by simp)
    obtain ⟨h1, h2⟩ := List.pairwise_cons.1 hs
    unfold chkFrom
    rw [if_neg (by rw [hy.1, hy.2]; decide), if_neg (by show ¬ leS y.1 p = true; rw [le_false (hp y (by simp))]; decide)]
    exact srt_chk t y.1 (fun x hx => hn x (by simp [hx])) h1 h2
theorem srt_chkS {s : PL} (hl : s.length ≤ 8) (hn : ∀ x ∈ s, isName x.1 = true ∧ isName x.2 = true) (hs : Srt s) : chkS s = 0 := by
  unfold chkS
  rw [if_neg (by omega)]
  cases s with
  | nil => rfl
  | cons y t =>
    have hy := hn y (by simp)
    obtain ⟨h1, h2⟩ := List.pairwise_cons.1 hs
    unfold chkFrom
    rw [if_neg (by rw [hy.1, hy.2]; decide), if_neg (by show ¬ false = true; decide)]
    exact srt_chk t y.1 (fun x hx => hn x (by simp [hx])) h1 h2
theorem get_mem : ∀ {s : PL} {x y : ByteArray}, Srt s → (x, y) ∈ s → getS s x = some y
  | [], _, _, _, h => by cases h
  | (z1, z2) :: t, x, y, hs, h => by
    obtain ⟨h1, h2⟩ := List.pairwise_cons.1 hs
    rcases List.mem_cons.1 h with e | h'
    · injection e with e1 e2
      subst e1; subst e2
      rw [getS_cons, if_pos (eqS_self x)]
    · have hlt : ltS z1 x = true := h1 (x, y) h'
      rw [getS_cons, if_neg (by rw [lt_not_eq hlt]; decide)]
      exact get_mem h2 h'
theorem has_no : ∀ {s : PL} {n : ByteArray}, hasS s n = false → ∀ x ∈ s, x.1 ≠ n
  | [], _, _, x, hx => by cases hx
  | (a, b) :: t, n, h, x, hx => by
    unfold hasS at h
    rw [getS_cons] at h
    by_cases e : eqS a n = true
    · rw [if_pos e] at h; cases h
    · rw [if_neg e] at h
      rcases List.mem_cons.1 hx with rfl | hx
      · exact fun h2 => e (eqS_iff.2 h2)
      · exact has_no (s := t) h x hx

/-- With one label more where it belongs. -/
def insP (s : PL) (k : Nat) (x : ByteArray × ByteArray) : PL := s.take k ++ [x] ++ s.drop k
theorem ins_good {s : PL} {k : Nat} {key val : ByteArray} (hc : chkS s = 0) (h8 : s.length < 8) (hn1 : isName key = true) (hn2 : isName val = true) (hno : hasS s key = false)
    (hlo : ∀ x ∈ s.take k, ltS x.1 key = true) (hhi : ∀ x, s[k]? = some x → ltS x.1 key = false) :
    chkS (insP s k (key, val)) = 0 ∧ Srt (insP s k (key, val)) ∧ (∀ x ∈ s, x ∈ insP s k (key, val)) ∧ (key, val) ∈ insP s k (key, val) := by
  have hs := chkS_srt hc
  have hnm := chk_names hc
  have hne := has_no hno
  have htd : s.take k ++ s.drop k = s := List.take_append_drop k s
  have hs' : Srt (s.take k ++ s.drop k) := by rw [htd]; exact hs
  obtain ⟨p1, p2, p3⟩ := List.pairwise_append.1 hs'
  have hhi2 : ∀ x ∈ s.drop k, ltS key x.1 = true := by
    cases hd : s.drop k with
    | nil => intro x hx; cases hx
    | cons y t =>
      have hy : s[k]? = some y := by have := congrArg (fun z => z[0]?) hd; simpa using this
      have h1 : ltS key y.1 = true := lt_other (hhi y hy) (hne y (List.mem_of_getElem? hy))
      rw [hd] at p2
      obtain ⟨q1, q2⟩ := List.pairwise_cons.1 p2
      intro x hx
      rcases List.mem_cons.1 hx with rfl | hx
      · exact h1
      · exact lt_trans' h1 (q1 x hx)
  have hsrt : Srt (insP s k (key, val)) := by
    unfold insP
    rw [List.append_assoc]
    refine List.pairwise_append.2 ⟨p1, ?_, ?_⟩
    · rw [List.cons_append, List.nil_append]
      exact List.pairwise_cons.2 ⟨hhi2, p2⟩
    · intro x hx y hy
      rw [List.cons_append, List.nil_append] at hy
      rcases List.mem_cons.1 hy with rfl | hy
      · exact hlo x hx
      · exact p3 x hx y hy
  have hin : ∀ x ∈ insP s k (key, val), isName x.1 = true ∧ isName x.2 = true := by
    intro x hx
    unfold insP at hx
    simp only [List.mem_append, List.mem_singleton] at hx
    rcases hx with (hx | rfl) | hx
    · exact hnm x (List.mem_of_mem_take hx)
    · exact ⟨hn1, hn2⟩
    · exact hnm x (List.mem_of_mem_drop hx)
  refine ⟨srt_chkS ?_ hin hsrt, hsrt, fun x hx => ?_, ?_⟩
  · unfold insP
    simp only [List.length_append, List.length_take, List.length_drop, List.length_cons, List.length_nil]
    omega
  · rw [← htd] at hx
    unfold insP
    simp only [List.mem_append, List.mem_singleton]
    rcases List.mem_append.1 hx with h | h
    · exact .inl (.inl h)
    · exact .inr h
  · unfold insP; simp

end Go.Proofs.YtmmjcomoabfmnaaDoor
