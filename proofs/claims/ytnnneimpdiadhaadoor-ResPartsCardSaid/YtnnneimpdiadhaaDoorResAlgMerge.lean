/- What is merged, by its names' amounts. -/
import Derived.Test.YtnnneimpdiadhaaDoorResAlg
namespace Go.Proofs.YtnnneimpdiadhaaDoor.Vec
open Go.RowKit
set_option linter.unusedVariables false

theorem take_spec {l : V} {s : ByteArray} (hg : Gd l) (h : ∀ y ∈ l, y.1 = s ∨ ltS s y.1 = true) :
    (takenV l s).1 = getV l s ∧ Gd (takenV l s).2 ∧ (∀ y ∈ (takenV l s).2, ltS s y.1 = true) ∧ (∀ n, n ≠ s → getV (takenV l s).2 n = getV l n) ∧ (∀ m, (∀ y ∈ l, ltS m y.1 = true) → ∀ y ∈ (takenV l s).2, ltS m y.1 = true) := by
  cases l with
  | nil => exact ⟨rfl, hg, fun y hy => absurd hy (by simp [takenV]), fun _ _ => rfl, fun _ _ y hy => absurd hy (by simp [takenV])⟩
  | cons x t =>
    have hg' := Gd.cons.1 hg
    rw [taken_cons]
    by_cases e : x.1 = s
    · rw [if_pos (eqS_iff.2 e)]
      subst e
      exact ⟨(get_same x t).symm, hg'.2.2, hg'.2.1, fun n hn => (get_other t (Ne.symm hn)).symm, fun m hm y hy => hm y (by simp [hy])⟩
    · rw [if_neg (fun c => e (eqS_iff.1 c))]
      have hx : ltS s x.1 = true := (h x (by simp)).resolve_left e
      have hall : ∀ y ∈ x :: t, ltS s y.1 = true := fun y hy => by
        rcases List.mem_cons.1 hy with rfl | hy
        · exact hx
        · exact lt_trans' hx (hg'.2.1 y hy)
      exact ⟨(behind_get hall).symm, hg, hall, fun _ _ => rfl, fun m hm => hm⟩

theorem foremost_spec {la lb : V} (ha : Gd la) (hb : Gd lb) (h : 0 < la.length + lb.length) :
    isName (foremostV la lb) = true ∧ (∀ y ∈ la, y.1 = foremostV la lb ∨ ltS (foremostV la lb) y.1 = true) ∧ (∀ y ∈ lb, y.1 = foremostV la lb ∨ ltS (foremostV la lb) y.1 = true) ∧
      (∀ m, (∀ y ∈ la, ltS m y.1 = true) → (∀ y ∈ lb, ltS m y.1 = true) → ltS m (foremostV la lb) = true) := by
  have own : ∀ {x : ByteArray × Int} {t : V}, Gd (x :: t) → ∀ y ∈ x :: t, y.1 = x.1 ∨ ltS x.1 y.1 = true := fun {x t} hg y hy => by
    rcases List.mem_cons.1 hy with rfl | hy
    · exact .inl rfl
    · exact .inr ((Gd.cons.1 hg).2.1 y hy)
  cases la with
  | nil =>
    cases lb with
    | nil => simp at h
    | cons y t => exact ⟨(Gd.cons.1 hb).1.1, fun z hz => absurd hz (by simp), own hb, fun m _ hm => hm y (by simp)⟩
  | cons x s =>
    cases lb with
    | nil => exact ⟨(Gd.cons.1 ha).1.1, own ha, fun z hz => absurd hz (by simp), fun m hm _ => hm x (by simp)⟩
    | cons y t =>
      rw [foremost_cons]
      by_cases e : ltS y.1 x.1 = true
      · rw [if_pos e]
        refine ⟨(Gd.cons.1 hb).1.1, fun z hz => .inr ?_, own hb, fun m _ hm => hm y (by simp)⟩
        rcases own ha z hz with hz | hz
        · rw [hz]; exact e
        · exact lt_trans' e hz
      · rw [if_neg e]
        refine ⟨(Gd.cons.1 ha).1.1, own ha, fun z hz => ?_, fun m hm _ => hm x (by simp)⟩
        have e' : ltS y.1 x.1 = false := by simpa using e
        have hxy : y.1 = x.1 ∨ ltS x.1 y.1 = true := by
          cases e2 : ltS x.1 y.1 with
          | true => exact .inr rfl
          | false => exact .inl (lt_tri' e' e2)
        rcases own hb z hz with hz | hz
        · rw [hz]; exact hxy
        · rcases hxy with hxy | hxy
          · rw [← hxy]; exact .inr hz
          · exact .inr (lt_trans' hxy hz)

/-- A way to reckon: nothing out of nothing, the one error 5, no number below 0 or too great. -/
structure Rk (f : Int → Int → Int × Int) : Prop where
  zero : f 0 0 = (0, 0)
  code : ∀ x y, 0 ≤ x ∧ x ≤ 9223372036854775807 → 0 ≤ y ∧ y ≤ 9223372036854775807 → (f x y).2 = 0 ∨ (f x y).2 = 5
  bd : ∀ x y, 0 ≤ x ∧ x ≤ 9223372036854775807 → 0 ≤ y ∧ y ≤ 9223372036854775807 → 0 ≤ (f x y).1 ∧ (f x y).1 ≤ 9223372036854775807

theorem rk_add : Rk addF := by
  refine ⟨by decide, fun x y hx hy => ?_, fun x y hx hy => addF_bd hx hy⟩
  unfold addF; split
  · exact .inl rfl
  · exact .inr rfl
theorem rk_sub : Rk subF := by
  refine ⟨by decide, fun x y hx hy => ?_, fun x y hx hy => subF_bd hx hy⟩
  unfold subF; split
  · exact .inl rfl
  · exact .inr rfl

/-- What one is by its names' amounts. -/
def Made (f : ByteArray → Int) (r : V) : Prop := Gd r ∧ ∀ n, getV r n = f n

theorem plus_made {r : V} {s : ByteArray} {v : Int} {g g' : ByteArray → Int} (hr : Made g' r) (hs : isName s = true) (hv : 0 ≤ v ∧ v ≤ 9223372036854775807) (hall : ∀ y ∈ r, ltS s y.1 = true)
    (h1 : g s = v) (h2 : ∀ n, n ≠ s → g n = g' n) : ∃ r', (∀ acc, plusV acc s v ++ r = acc ++ r') ∧ Made g r' ∧ (∀ m, ltS m s = true → (∀ y ∈ r, ltS m y.1 = true) → ∀ y ∈ r', ltS m y.1 = true) ∧ r'.length ≤ r.length + 1 := by
  by_cases e : v = 0
  · refine ⟨r, fun acc => by unfold plusV; rw [if_pos e], ⟨hr.1, fun n => ?_⟩, fun m _ h => h, by omega⟩
    by_cases en : n = s
    · subst en; rw [behind_get hall, h1, e]
    · rw [hr.2 n, h2 n en]
  · refine ⟨(s, v) :: r, fun acc => by unfold plusV; rw [if_neg e]; simp, ⟨Gd.cons.2 ⟨⟨hs, by omega, hv.2⟩, hall, hr.1⟩, fun n => ?_⟩, fun m hm h y hy => ?_, by simp⟩
    · by_cases en : n = s
      · subst en; rw [get_same (n, v) r, h1]
      · rw [get_other (x := (s, v)) r (fun c => en c.symm), hr.2 n, h2 n en]
    · rcases List.mem_cons.1 hy with rfl | hy
      · exact hm
      · exact h y hy

theorem merge_spec {f : Int → Int → Int × Int} (hf : Rk f) : ∀ (fuel : Nat) (la lb : V), la.length + lb.length ≤ fuel → Gd la → Gd lb →
    ((∃ n, (f (getV la n) (getV lb n)).2 ≠ 0) ∧ ∀ acc, mergeAcc f fuel la lb acc = (5, [])) ∨
    ((∀ n, (f (getV la n) (getV lb n)).2 = 0) ∧ ∃ r, (∀ acc, mergeAcc f fuel la lb acc = (0, acc ++ r)) ∧ Made (fun n => (f (getV la n) (getV lb n)).1) r ∧
      (∀ m, (∀ y ∈ la, ltS m y.1 = true) → (∀ y ∈ lb, ltS m y.1 = true) → ∀ y ∈ r, ltS m y.1 = true)) := by
  intro fuel
  induction fuel with
  | zero =>
    intro la lb hl ha hb
    have e1 : la = [] := List.eq_nil_of_length_eq_zero (by omega)
    have e2 : lb = [] := List.eq_nil_of_length_eq_zero (by omega)
    subst e1; subst e2
    refine .inr ⟨fun n => by rw [show getV [] n = 0 from rfl, hf.zero], [], fun acc => by rw [mergeAcc, List.append_nil], ⟨Gd.nil, fun n => by show (0 : Int) = (f 0 0).1; rw [hf.zero]⟩, fun m _ _ y hy => absurd hy (by simp)⟩
  | succ fuel ih =>
    intro la lb hl ha hb
    by_cases h0 : la.length + lb.length = 0
    · have e1 : la = [] := List.eq_nil_of_length_eq_zero (by omega)
      have e2 : lb = [] := List.eq_nil_of_length_eq_zero (by omega)
      subst e1; subst e2
      refine .inr ⟨fun n => by rw [show getV [] n = 0 from rfl, hf.zero], [], fun acc => by rw [merge_end (by simp), List.append_nil], ⟨Gd.nil, fun n => by show (0 : Int) = (f 0 0).1; rw [hf.zero]⟩, fun m _ _ y hy => absurd hy (by simp)⟩
    · obtain ⟨hs, hsa, hsb, hsm⟩ := foremost_spec ha hb (by omega)
      have hless := merge_less (la := la) (lb := lb) (by omega)
      obtain ⟨s, es⟩ : ∃ s, foremostV la lb = s := ⟨_, rfl⟩
      have hstep : ∀ acc, mergeAcc f (fuel + 1) la lb acc = if (f (takenV la s).1 (takenV lb s).1).2 ≠ 0 then ((f (takenV la s).1 (takenV lb s).1).2, []) else mergeAcc f fuel (takenV la s).2 (takenV lb s).2 (plusV acc s (f (takenV la s).1 (takenV lb s).1).1) := fun acc => by
        rw [mergeAcc, if_neg h0]; dsimp only; rw [es]
      rw [es] at hs hsa hsb hsm hless
      obtain ⟨a1, a2, a3, a4, a5⟩ := take_spec ha hsa
      obtain ⟨b1, b2, b3, b4, b5⟩ := take_spec hb hsb
      rw [a1, b1] at hstep
      have hca := get_bd s ha
      have hcb := get_bd s hb
      by_cases hx : (f (getV la s) (getV lb s)).2 = 0
      · have hstep2 : ∀ acc, mergeAcc f (fuel + 1) la lb acc = mergeAcc f fuel (takenV la s).2 (takenV lb s).2 (plusV acc s (f (getV la s) (getV lb s)).1) := fun acc => by
          rw [hstep acc, if_neg (by rw [hx]; decide)]
        have e0 : ∀ n, n = s → f (getV (takenV la s).2 n) (getV (takenV lb s).2 n) = (0, 0) := fun n hn => by
          subst hn; rw [behind_get a3, behind_get b3, hf.zero]
        rcases ih (takenV la s).2 (takenV lb s).2 (by omega) a2 b2 with ⟨⟨n, hn⟩, hbad⟩ | ⟨hgood, r, hr, hm, hmin⟩
        · refine .inl ⟨⟨n, ?_⟩, fun acc => by rw [hstep2, hbad]⟩
          by_cases en : n = s
          · rw [e0 n en] at hn; exact absurd rfl hn
          · rw [a4 n en, b4 n en] at hn; exact hn
        · obtain ⟨r', h1, h2, h3, _⟩ := plus_made (s := s) (v := (f (getV la s) (getV lb s)).1) (g := fun n => (f (getV la n) (getV lb n)).1) hm hs (hf.bd _ _ hca hcb) (hmin s a3 b3) rfl
            (fun n hn => by show _ = _; rw [a4 n hn, b4 n hn])
          refine .inr ⟨fun n => ?_, r', fun acc => by rw [hstep2, hr, h1], h2, fun m hma hmb => h3 m (hsm m hma hmb) (hmin m (a5 m hma) (b5 m hmb))⟩
          by_cases en : n = s
          · rw [en]; exact hx
          · have := hgood n; rw [a4 n en, b4 n en] at this; exact this
      · refine .inl ⟨⟨s, hx⟩, fun acc => ?_⟩
        rw [hstep acc, if_pos hx, (hf.code _ _ hca hcb).resolve_left hx]

/-- Add and Sub, of two that may be. -/
theorem merged_spec {f : Int → Int → Int × Int} (hf : Rk f) {l l' : V} (h : Gd l) (h' : Gd l') (hl : l.length ≤ 8) (hl' : l'.length ≤ 8) :
    ((∃ n, (f (getV l n) (getV l' n)).2 ≠ 0) ∧ mergedV f l l' = (5, [])) ∨
    ((∀ n, (f (getV l n) (getV l' n)).2 = 0) ∧ ∃ r, Made (fun n => (f (getV l n) (getV l' n)).1) r ∧ ((8 < r.length ∧ mergedV f l l' = (4, [])) ∨ (r.length ≤ 8 ∧ mergedV f l l' = (0, r)))) := by
  have e : mergedV f l l' = (let r := mergeAcc f (l.length + l'.length) l l' []; if r.1 ≠ 0 then (r.1, []) else if 8 < r.2.length then (4, []) else (0, r.2)) := by
    rw [mergedV, if_neg (by rw [good_check h hl]; decide), if_neg (by rw [good_check h' hl']; decide)]
  rcases merge_spec hf (l.length + l'.length) l l' (Nat.le_refl _) h h' with ⟨hn, hb⟩ | ⟨hn, r, hr, hm, _⟩
  · exact .inl ⟨hn, by rw [e, hb]; rfl⟩
  · refine .inr ⟨hn, r, hm, ?_⟩
    rw [e, hr]
    by_cases h8 : 8 < r.length
    · exact .inl ⟨h8, by simp [h8]⟩
    · exact .inr ⟨by omega, by simp [h8]⟩

/-- Times and Part. -/
theorem each_spec {f : Int → Int → Int × Int} {k : Int} (hz : f 0 k = (0, 0)) (hcode : ∀ x, 0 ≤ x ∧ x ≤ 9223372036854775807 → (f x k).2 = 0 ∨ (f x k).2 = 5) (hbd : ∀ x, 0 ≤ x ∧ x ≤ 9223372036854775807 → 0 ≤ (f x k).1 ∧ (f x k).1 ≤ 9223372036854775807) :
    ∀ (l : V), Gd l → ((∃ n, (f (getV l n) k).2 ≠ 0) ∧ ∀ acc, eachAcc f k l acc = (5, [])) ∨
    ((∀ n, (f (getV l n) k).2 = 0) ∧ ∃ r, (∀ acc, eachAcc f k l acc = (0, acc ++ r)) ∧ Made (fun n => (f (getV l n) k).1) r ∧ (∀ m, (∀ y ∈ l, ltS m y.1 = true) → ∀ y ∈ r, ltS m y.1 = true)) := by
  intro l
  induction l with
  | nil =>
    intro _
    refine .inr ⟨fun n => by rw [show getV [] n = 0 from rfl, hz], [], fun acc => by rw [eachAcc, List.append_nil], ⟨Gd.nil, fun n => by show (0 : Int) = (f 0 k).1; rw [hz]⟩, fun m _ y hy => absurd hy (by simp)⟩
  | cons x t ih =>
    intro hg
    have hg' := Gd.cons.1 hg
    have hx0 : 0 ≤ x.2 ∧ x.2 ≤ 9223372036854775807 := by omega
    have gx : getV (x :: t) x.1 = x.2 := get_same x t
    by_cases hx : (f x.2 k).2 = 0
    · have hstep : ∀ acc, eachAcc f k (x :: t) acc = eachAcc f k t (plusV acc x.1 (f x.2 k).1) := fun acc => by rw [eachAcc, if_neg (by rw [hx]; decide)]
      have e0 : f (getV t x.1) k = (0, 0) := by rw [behind_get hg'.2.1, hz]
      rcases ih hg'.2.2 with ⟨⟨n, hn⟩, hbad⟩ | ⟨hgood, r, hr, hm, hmin⟩
      · refine .inl ⟨⟨n, ?_⟩, fun acc => by rw [hstep, hbad]⟩
        by_cases en : x.1 = n
        · rw [← en, e0] at hn; exact absurd rfl hn
        · rw [get_other t en]; exact hn
      · obtain ⟨r', h1, h2, h3, _⟩ := plus_made (s := x.1) (v := (f x.2 k).1) (g := fun n => (f (getV (x :: t) n) k).1) hm hg'.1.1 (hbd _ hx0) (hmin x.1 hg'.2.1) (by show (f (getV (x :: t) x.1) k).1 = _; rw [gx])
          (fun n hn => by show _ = _; rw [get_other t (Ne.symm hn)])
        refine .inr ⟨fun n => ?_, r', fun acc => by rw [hstep, hr, h1], h2, fun m hm' => h3 m (hm' x (by simp)) (hmin m fun y hy => hm' y (by simp [hy]))⟩
        by_cases en : x.1 = n
        · rw [← en, gx]; exact hx
        · rw [get_other t en]; exact hgood n
    · refine .inl ⟨⟨x.1, by rw [gx]; exact hx⟩, fun acc => ?_⟩
      rw [eachAcc, if_pos hx, (hcode _ hx0).resolve_left hx]

end Go.Proofs.YtnnneimpdiadhaaDoor.Vec
