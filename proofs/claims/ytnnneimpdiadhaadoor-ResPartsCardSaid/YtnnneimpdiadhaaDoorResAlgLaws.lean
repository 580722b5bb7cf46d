/- What the laws say of vectors that may be. -/
import Derived.Test.YtnnneimpdiadhaaDoorResAlgMerge
namespace Go.Proofs.YtnnneimpdiadhaaDoor.Vec
open Go.RowKit
set_option linter.unusedVariables false

theorem fits_mem : ∀ {l h : V}, fitsFrom h l = true ↔ ∀ x ∈ l, x.2 ≤ getV h x.1
  | [], h => ⟨fun _ x hx => absurd hx (by simp), fun _ => rfl⟩
  | x :: t, h => by
    rw [fitsFrom, Bool.and_eq_true, decide_eq_true_eq, fits_mem, List.forall_mem_cons]
theorem fits_iff {l h : V} (hl : Gd l) (hh : Gd h) : fitsFrom h l = true ↔ ∀ n, getV l n ≤ getV h n := by
  rw [fits_mem]
  constructor
  · intro hx n
    by_cases e : getV l n = 0
    · rw [e]; exact (get_bd n hh).1
    · obtain ⟨x, hm, rfl⟩ := get_mem e
      rw [get_in hl hm]; exact hx x hm
  · intro hn x hx
    have := hn x.1
    rw [get_in hl hx] at this; exact this
theorem same_self : ∀ l : V, sameFrom l l = true
  | [] => rfl
  | x :: t => by rw [sameFrom, same_self t, eqS_iff.2 rfl]; simp
theorem same_of {a b : V} (h : a = b) : sameFrom a b = true := h ▸ same_self a

theorem fits_self {a : V} (h : Gd a) : fitsFrom a a = true := (fits_iff h h).2 fun _ => Int.le_refl _
theorem nil_fits {a : V} (h : Gd a) : fitsFrom [] a = decide (a.length = 0) := by
  cases a with
  | nil => rfl
  | cons x t =>
    have := (Gd.cons.1 h).1
    rw [fitsFrom, decide_eq_false (by rw [show getV [] x.1 = 0 from rfl]; omega)]
    simp
theorem fits_trans {a b c : V} (ha : Gd a) (hb : Gd b) (hc : Gd c) (h : fitsFrom b a = true) (g : fitsFrom c b = true) : fitsFrom c a = true :=
  (fits_iff ha hc).2 fun n => Int.le_trans ((fits_iff ha hb).1 h n) ((fits_iff hb hc).1 g n)
theorem fits_both {a b : V} (ha : Gd a) (hb : Gd b) (h : fitsFrom b a = true) (g : fitsFrom a b = true) : a = b :=
  Gd.ext ha hb fun n => Int.le_antisymm ((fits_iff ha hb).1 h n) ((fits_iff hb ha).1 g n)

theorem subF_code (x y : Int) : (subF x y).2 = 0 ↔ y ≤ x := by
  unfold subF; split
  · simp only [true_iff]; assumption
  · constructor
    · intro h; cases h
    · intro h; contradiction
theorem addF_code (x y : Int) : (addF x y).2 = 0 ↔ x + y ≤ 9223372036854775807 := by
  unfold addF; split
  · simp only [true_iff]; assumption
  · constructor
    · intro h; cases h
    · intro h; contradiction
theorem subF_val {x y : Int} (h : y ≤ x) : subF x y = (x - y, 0) := by unfold subF; rw [if_pos h]
theorem addF_val {x y : Int} (h : x + y ≤ 9223372036854775807) : addF x y = (x + y, 0) := by unfold addF; rw [if_pos h]

/-- Taken away: where it fits. -/
theorem sub_made {l l' : V} (h : Gd l) (h' : Gd l') (hl : l.length ≤ 8) (hl' : l'.length ≤ 8) (hf : ∀ n, getV l' n ≤ getV l n) :
    ∃ r, mergedV subF l l' = (0, r) ∧ Made (fun n => getV l n - getV l' n) r ∧ r.length ≤ 8 := by
  rcases merged_spec rk_sub h h' hl hl' with ⟨⟨n, hn⟩, _⟩ | ⟨_, r, hm, hr⟩
  · exact absurd ((subF_code _ _).2 (hf n)) hn
  · have hm' : Made (fun n => getV l n - getV l' n) r := ⟨hm.1, fun n => by rw [hm.2 n]; show (subF _ _).1 = _; rw [subF_val (hf n)]⟩
    have hlen : r.length ≤ l.length := Gd.len hm.1 h fun n hn => by
      rw [hm'.2 n] at hn
      dsimp only at hn
      have h1 := get_bd n h
      have h2 := get_bd n h'
      have := hf n
      omega
    rcases hr with ⟨h8, _⟩ | ⟨h8, e⟩
    · omega
    · exact ⟨r, e, hm', h8⟩
theorem sub_fits {l l' : V} (h : Gd l) (h' : Gd l') (hl : l.length ≤ 8) (hl' : l'.length ≤ 8) : ((mergedV subF l l').1 = 0) ↔ fitsFrom l l' = true := by
  rw [fits_iff h' h]
  constructor
  · intro e
    rcases merged_spec rk_sub h h' hl hl' with ⟨⟨n, hn⟩, hb⟩ | ⟨hn, _⟩
    · rw [hb] at e; cases e
    · exact fun n => (subF_code _ _).1 (hn n)
  · intro hf
    obtain ⟨r, e, _⟩ := sub_made h h' hl hl' hf
    rw [e]

/-- Added: what there is of the sum where no error is told. -/
theorem sum_ok {l l' m : V} (h : Gd l) (h' : Gd l') (hl : l.length ≤ 8) (hl' : l'.length ≤ 8) (e : mergedV addF l l' = (0, m)) :
    Made (fun n => getV l n + getV l' n) m ∧ m.length ≤ 8 ∧ ∀ n, getV l n + getV l' n ≤ 9223372036854775807 := by
  rcases merged_spec rk_add h h' hl hl' with ⟨_, hb⟩ | ⟨hn, r, hm, hr⟩
  · rw [hb] at e; cases e
  · have hs : ∀ n, getV l n + getV l' n ≤ 9223372036854775807 := fun n => (addF_code _ _).1 (hn n)
    have hm' : Made (fun n => getV l n + getV l' n) r := ⟨hm.1, fun n => by rw [hm.2 n]; show (addF _ _).1 = _; rw [addF_val (hs n)]⟩
    rcases hr with ⟨_, e'⟩ | ⟨h8, e'⟩
    · rw [e'] at e; cases e
    · rw [e'] at e; cases e; exact ⟨hm', h8, hs⟩
theorem add_made {l l' r : V} (h : Gd l) (h' : Gd l') (hl : l.length ≤ 8) (hl' : l'.length ≤ 8) (hs : ∀ n, getV l n + getV l' n ≤ 9223372036854775807) (hr : Made (fun n => getV l n + getV l' n) r) (h8 : r.length ≤ 8) : mergedV addF l l' = (0, r) := by
  rcases merged_spec rk_add h h' hl hl' with ⟨⟨n, hn⟩, _⟩ | ⟨hn, q, hm, hq⟩
  · exact absurd ((addF_code _ _).2 (hs n)) hn
  · have e : q = r := Gd.ext hm.1 hr.1 fun n => by rw [hm.2 n, hr.2 n]; show (addF _ _).1 = _; rw [addF_val (hs n)]
    subst e
    rcases hq with ⟨h9, _⟩ | ⟨_, e⟩
    · omega
    · exact e
theorem add_comm' {l l' : V} (h : Gd l) (h' : Gd l') (hl : l.length ≤ 8) (hl' : l'.length ≤ 8) : mergedV addF l' l = mergedV addF l l' := by
  have hc : ∀ x y : Int, addF x y = addF y x := fun x y => by unfold addF; rw [Int.add_comm]
  rcases merged_spec rk_add h h' hl hl' with ⟨⟨n, hn⟩, e⟩ | ⟨hn, r, hm, hr⟩
  · rcases merged_spec rk_add h' h hl' hl with ⟨_, e'⟩ | ⟨hn', _⟩
    · rw [e, e']
    · exact absurd (by rw [hc]; exact hn' n) hn
  · rcases merged_spec rk_add h' h hl' hl with ⟨⟨n, hn'⟩, _⟩ | ⟨_, r', hm', hr'⟩
    · exact absurd (by rw [hc]; exact hn n) hn'
    · have e : r' = r := Gd.ext hm'.1 hm.1 fun n => by rw [hm'.2 n, hm.2 n]; show (addF _ _).1 = (addF _ _).1; rw [hc]
      subst e
      rcases hr with ⟨h1, e1⟩ | ⟨h1, e1⟩ <;> rcases hr' with ⟨h2, e2⟩ | ⟨h2, e2⟩
      · rw [e1, e2]
      · omega
      · omega
      · rw [e1, e2]

/-- Added, and taken away again. -/
theorem sub_add {a b x : V} (ha : Gd a) (hb : Gd b) (la : a.length ≤ 8) (lb : b.length ≤ 8) (e : mergedV addF a b = (0, x)) : mergedV subF x b = (0, a) := by
  obtain ⟨hx, lx, hs⟩ := sum_ok ha hb la lb e
  obtain ⟨r, er, hr, _⟩ := sub_made hx.1 hb lx lb (fun n => by rw [hx.2 n]; have := get_bd n ha; dsimp only; omega)
  rw [er, Gd.ext hr.1 ha (fun n => by rw [hr.2 n]; dsimp only; rw [hx.2 n]; dsimp only; omega)]
theorem fits_add {a b x : V} (ha : Gd a) (hb : Gd b) (la : a.length ≤ 8) (lb : b.length ≤ 8) (e : mergedV addF a b = (0, x)) : fitsFrom x a = true ∧ fitsFrom x b = true ∧ Gd x ∧ x.length ≤ 8 ∧ checkV x = 0 := by
  obtain ⟨hx, lx, hs⟩ := sum_ok ha hb la lb e
  refine ⟨(fits_iff ha hx.1).2 fun n => ?_, (fits_iff hb hx.1).2 fun n => ?_, hx.1, lx, good_check hx.1 lx⟩
  · rw [hx.2 n]; have := get_bd n hb; dsimp only; omega
  · rw [hx.2 n]; have := get_bd n ha; dsimp only; omega
/-- It is the same whichever is first. -/
theorem add_assoc' {a b c x p q : V} (ha : Gd a) (hb : Gd b) (hc : Gd c) (la : a.length ≤ 8) (lb : b.length ≤ 8) (lc : c.length ≤ 8)
    (ex : mergedV addF a b = (0, x)) (ep : mergedV addF x c = (0, p)) (eq : mergedV addF b c = (0, q)) : mergedV addF a q = (0, p) := by
  obtain ⟨hx, lx, hsx⟩ := sum_ok ha hb la lb ex
  obtain ⟨hp, lp, hsp⟩ := sum_ok hx.1 hc lx lc ep
  obtain ⟨hq, lq, hsq⟩ := sum_ok hb hc lb lc eq
  refine add_made ha hq.1 la lq (fun n => ?_) ⟨hp.1, fun n => ?_⟩ lp
  · rw [hq.2 n]; have := hsp n; rw [hx.2 n] at this; dsimp only at this ⊢; omega
  · rw [hp.2 n]; dsimp only; rw [hx.2 n, hq.2 n]; dsimp only; omega

end Go.Proofs.YtnnneimpdiadhaaDoor.Vec
