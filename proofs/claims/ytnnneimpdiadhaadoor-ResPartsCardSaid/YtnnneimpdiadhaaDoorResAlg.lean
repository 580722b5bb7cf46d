/- The algebra of vectors that may be: names in their order, numbers above 0. -/
import Derived.Test.YtnnneimpdiadhaaDoorResEachMath
import Derived.Test.YtnnneimpdiadhaaDoorResRead
import Derived.WideShapes
namespace Go.Proofs.YtnnneimpdiadhaaDoor.Vec
open Go.RowKit
set_option linter.unusedVariables false

theorem less_irrefl : ∀ s : List UInt8, Op.bytesLess s s = false
  | [] => rfl
  | a :: s => by
    have : ¬ a < a := UInt8.lt_irrefl a
    simp [Op.bytesLess, less_irrefl s, this]
theorem less_trans : ∀ {a b c : List UInt8}, Op.bytesLess a b = true → Op.bytesLess b c = true → Op.bytesLess a c = true
  | _, _, [], _, h => by simp [Op.bytesLess] at h
  | [], _, _ :: _, _, _ => by simp [Op.bytesLess]
  | x :: a, [], z :: c, h, _ => by simp [Op.bytesLess] at h
  | x :: a, y :: b, z :: c, h, g => by
    simp only [Op.bytesLess, Bool.or_eq_true, Bool.and_eq_true, decide_eq_true_eq, beq_iff_eq] at h g ⊢
    rcases h with h | ⟨rfl, h⟩
    · rcases g with g | ⟨rfl, g⟩
      · exact .inl (UInt8.lt_trans h g)
      · exact .inl h
    · rcases g with g | ⟨rfl, g⟩
      · exact .inl g
      · exact .inr ⟨rfl, less_trans h g⟩
theorem less_tri : ∀ {a b : List UInt8}, Op.bytesLess a b = false → Op.bytesLess b a = false → a = b
  | [], [], _, _ => rfl
  | [], _ :: _, h, _ => by simp [Op.bytesLess] at h
  | _ :: _, [], _, h => by simp [Op.bytesLess] at h
  | x :: a, y :: b, h, g => by
    simp only [Op.bytesLess, Bool.or_eq_false_iff, decide_eq_false_iff_not, Bool.and_eq_false_iff, beq_eq_false_iff_ne] at h g
    have e : x = y := by
      have h1 := UInt8.not_lt.1 h.1
      have h2 := UInt8.not_lt.1 g.1
      exact UInt8.le_antisymm h2 h1
    subst e
    have h2 := h.2.resolve_left (by simp)
    have g2 := g.2.resolve_left (by simp)
    rw [less_tri h2 g2]

theorem lt_of (s t : ByteArray) : ltS s t = Op.bytesLess s.data.toList t.data.toList := by unfold ltS; rw [Lib.toList_data, Lib.toList_data]
theorem eqS_iff {s t : ByteArray} : eqS s t = true ↔ s = t := by
  unfold eqS; rw [Lib.toList_data, Lib.toList_data, beq_iff_eq]
  exact ⟨fun h => Go.WideShapes.bytes_inj h, fun h => by rw [h]⟩
theorem lt_irrefl' (s : ByteArray) : ltS s s = false := by rw [lt_of]; exact less_irrefl _
theorem lt_trans' {s t u : ByteArray} (h : ltS s t = true) (g : ltS t u = true) : ltS s u = true := by
  rw [lt_of] at *; exact less_trans h g
theorem lt_tri' {s t : ByteArray} (h : ltS s t = false) (g : ltS t s = false) : s = t := by
  rw [lt_of] at *; exact Go.WideShapes.bytes_inj (less_tri h g)
theorem lt_ne {s t : ByteArray} (h : ltS s t = true) : s ≠ t := by rintro rfl; rw [lt_irrefl'] at h; cases h
theorem lt_asymm' {s t : ByteArray} (h : ltS s t = true) (g : ltS t s = true) : False := lt_ne (lt_trans' h g) rfl

/-- May be: names as they must, numbers above 0, names rising. -/
def Gd (l : V) : Prop := (∀ x ∈ l, isName x.1 = true ∧ 0 < x.2 ∧ x.2 ≤ 9223372036854775807) ∧ l.Pairwise (fun x y => ltS x.1 y.1 = true)
theorem Gd.nil : Gd [] := ⟨fun x hx => absurd hx (by simp), .nil⟩
theorem Gd.cons {x : ByteArray × Int} {t : V} : Gd (x :: t) ↔ (isName x.1 = true ∧ 0 < x.2 ∧ x.2 ≤ 9223372036854775807) ∧ (∀ y ∈ t, ltS x.1 y.1 = true) ∧ Gd t := by
  unfold Gd
  rw [List.pairwise_cons, List.forall_mem_cons]
  constructor
  · rintro ⟨⟨a, b⟩, c, d⟩; exact ⟨a, c, b, d⟩
  · rintro ⟨a, c, b, d⟩; exact ⟨⟨a, b⟩, c, d⟩

theorem get_same (x : ByteArray × Int) (t : V) : getV (x :: t) x.1 = x.2 := by rw [getV, if_pos (eqS_iff.2 rfl)]
theorem get_other {x : ByteArray × Int} {n : ByteArray} (t : V) (h : x.1 ≠ n) : getV (x :: t) n = getV t n := by rw [getV, if_neg (fun e => h (eqS_iff.1 e))]
theorem get_zero : ∀ {l : V} {n : ByteArray}, (∀ y ∈ l, y.1 ≠ n) → getV l n = 0
  | [], _, _ => rfl
  | x :: t, n, h => by rw [get_other t (h x (by simp))]; exact get_zero fun y hy => h y (by simp [hy])
theorem get_mem : ∀ {l : V} {n : ByteArray}, getV l n ≠ 0 → ∃ y ∈ l, y.1 = n
  | [], _, h => absurd rfl h
  | x :: t, n, h => by
    by_cases e : x.1 = n
    · exact ⟨x, by simp, e⟩
    · rw [get_other t e] at h
      obtain ⟨y, hy, hn⟩ := get_mem h
      exact ⟨y, by simp [hy], hn⟩
theorem get_bd : ∀ {l : V} (n : ByteArray), Gd l → 0 ≤ getV l n ∧ getV l n ≤ 9223372036854775807
  | [], _, _ => ⟨Int.le_refl _, (by decide : (0 : Int) ≤ 9223372036854775807)⟩
  | x :: t, n, h => by
    have h' := Gd.cons.1 h
    by_cases e : x.1 = n
    · subst e; rw [get_same]; omega
    · rw [get_other t e]; exact get_bd n h'.2.2
theorem get_in : ∀ {l : V} {x : ByteArray × Int}, Gd l → x ∈ l → getV l x.1 = x.2
  | [], _, _, h => absurd h (by simp)
  | y :: t, x, h, hx => by
    have h' := Gd.cons.1 h
    rcases List.mem_cons.1 hx with rfl | hx
    · exact get_same _ _
    · rw [get_other t (lt_ne (h'.2.1 x hx))]; exact get_in h'.2.2 hx
theorem behind_get {l : V} {n : ByteArray} (h : ∀ y ∈ l, ltS n y.1 = true) : getV l n = 0 := get_zero fun y hy => (lt_ne (h y hy)).symm

/-- A vector is known by its names' amounts. -/
theorem Gd.ext : ∀ {a b : V}, Gd a → Gd b → (∀ n, getV a n = getV b n) → a = b
  | [], [], _, _, _ => rfl
  | [], y :: t, _, hb, h => by
    have := h y.1; rw [get_same] at this; have := (Gd.cons.1 hb).1; rw [show getV [] y.1 = 0 from rfl] at *; omega
  | x :: s, [], ha, _, h => by
    have := h x.1; rw [get_same] at this; have := (Gd.cons.1 ha).1; rw [show getV [] x.1 = 0 from rfl] at *; omega
  | x :: s, y :: t, ha, hb, h => by
    have ha' := Gd.cons.1 ha
    have hb' := Gd.cons.1 hb
    have e1 : ltS x.1 y.1 = false := by
      cases e : ltS x.1 y.1 with
      | false => rfl
      | true =>
        have hx := h x.1
        rw [get_same, behind_get (l := y :: t) (fun z hz => by
          rcases List.mem_cons.1 hz with rfl | hz
          · exact e
          · exact lt_trans' e (hb'.2.1 z hz))] at hx
        omega
    have e2 : ltS y.1 x.1 = false := by
      cases e : ltS y.1 x.1 with
      | false => rfl
      | true =>
        have hx := h y.1
        rw [get_same, behind_get (l := x :: s) (fun z hz => by
          rcases List.mem_cons.1 hz with rfl | hz
          · exact e
          · exact lt_trans' e (ha'.2.1 z hz))] at hx
        omega
    have e := lt_tri' e1 e2
    have hv : x.2 = y.2 := by have := h x.1; rw [get_same, e, get_same] at this; exact this
    have ht : s = t := Gd.ext ha'.2.2 hb'.2.2 fun n => by
      by_cases en : x.1 = n
      · rw [behind_get (fun z hz => en ▸ ha'.2.1 z hz), behind_get (fun z hz => en ▸ e ▸ hb'.2.1 z hz)]
      · have := h n
        rw [get_other s en, get_other t (by rw [← e]; exact en)] at this
        exact this
    obtain ⟨x1, x2⟩ := x
    obtain ⟨y1, y2⟩ := y
    cases e; cases hv; rw [ht]

theorem Gd.len : ∀ {b r : V}, Gd r → Gd b → (∀ n, getV r n ≠ 0 → getV b n ≠ 0) → r.length ≤ b.length
  | [], [], _, _, _ => Nat.le_refl _
  | [], x :: s, hr, _, h => by
    have := h x.1; rw [get_same] at this; have h1 := (Gd.cons.1 hr).1
    exact absurd rfl (this (by omega))
  | y :: t, [], _, _, _ => Nat.zero_le _
  | y :: t, x :: s, hr, hb, h => by
    have hr' := Gd.cons.1 hr
    have hb' := Gd.cons.1 hb
    have : s.length ≤ t.length := Gd.len hr'.2.2 hb'.2.2 fun n hn => by
      obtain ⟨z, hz, rfl⟩ := get_mem hn
      have hlt := hr'.2.1 z hz
      have hb2 := h z.1 (by rw [get_other s (lt_ne hlt)]; exact hn)
      by_cases e : y.1 = z.1
      · obtain ⟨u, hu, hux⟩ := get_mem (h x.1 (by rw [get_same]; omega))
        rcases List.mem_cons.1 hu with rfl | hu
        · rw [← hux, e, lt_irrefl'] at hlt; cases hlt
        · have := hb'.2.1 u hu
          rw [hux, e] at this
          exact (lt_asymm' hlt this).elim
      · rw [get_other t e] at hb2; exact hb2
    simp only [List.length_cons]; omega

theorem leS_false {s t : ByteArray} (h : leS s t = false) : ltS t s = true := by
  unfold leS at h
  rw [Bool.or_eq_false_iff] at h
  cases e : ltS t s with
  | true => rfl
  | false => rw [lt_tri' h.1 e, eqS_iff.2 rfl] at h; cases h.2
theorem leS_of_lt {s t : ByteArray} (h : ltS t s = true) : leS s t = false := by
  unfold leS
  rw [Bool.or_eq_false_iff]
  refine ⟨?_, ?_⟩
  · cases e : ltS s t with
    | false => rfl
    | true => exact (lt_asymm' h e).elim
  · cases e : eqS s t with
    | false => rfl
    | true => exact absurd (eqS_iff.1 e).symm (lt_ne h)

theorem check_good {l : V} (h : checkV l = 0) (hf : Fine l) : Gd l := by
  have h2 : checkFrom none l = 0 := by
    unfold checkV at h
    split at h
    · cases h
    · exact h
  have key : ∀ (l : V) (p : Option ByteArray), checkFrom p l = 0 → Fine l → Gd l ∧ (∀ x, p = some x → ∀ y ∈ l, ltS x y.1 = true) := by
    intro l
    induction l with
    | nil => intro p _ _; exact ⟨Gd.nil, fun _ _ y hy => absurd hy (by simp)⟩
    | cons x t ih =>
      intro p hc hf
      rw [Fine.cons] at hf
      unfold checkFrom at hc
      split at hc
      · cases hc
      · rename_i n1
        split at hc
        · cases hc
        · rename_i n2
          split at hc
          · cases hc
          · rename_i n3
            obtain ⟨hg, hall⟩ := ih _ hc hf.2
            have hx := hall x.1 rfl
            refine ⟨Gd.cons.2 ⟨⟨by simpa using n1, by omega, hf.1.2.2⟩, hx, hg⟩, ?_⟩
            rintro q rfl y hy
            have hq : ltS q x.1 = true := leS_false (by simpa [behindB] using n3)
            rcases List.mem_cons.1 hy with rfl | hy
            · exact hq
            · exact lt_trans' hq (hx y hy)
  exact (key l none h2 hf).1
theorem good_check {l : V} (h : Gd l) (hl : l.length ≤ 8) : checkV l = 0 := by
  have key : ∀ (l : V) (p : Option ByteArray), Gd l → (∀ x, p = some x → ∀ y ∈ l, ltS x y.1 = true) → checkFrom p l = 0 := by
    intro l
    induction l with
    | nil => intro p _ _; cases p <;> rfl
    | cons x t ih =>
      intro p hg hp
      have hg' := Gd.cons.1 hg
      rw [checkFrom, if_neg (by rw [hg'.1.1]; decide), if_neg (by omega), if_neg]
      · exact ih _ hg'.2.2 fun q e y hy => by cases e; exact hg'.2.1 y hy
      · cases p with
        | none => simp [behindB]
        | some q => rw [show behindB (some q) x.1 = leS x.1 q from rfl, leS_of_lt (hp q rfl x (by simp))]; decide
  unfold checkV
  rw [if_neg (by omega)]
  exact key l none h (fun _ e => by cases e)

end Go.Proofs.YtnnneimpdiadhaaDoor.Vec
