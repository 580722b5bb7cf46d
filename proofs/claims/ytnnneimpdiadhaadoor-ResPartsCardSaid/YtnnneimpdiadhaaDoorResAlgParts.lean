/- So many times, so many parts: of vectors that may be. -/
import Derived.Test.YtnnneimpdiadhaaDoorResAlgLaws
namespace Go.Proofs.YtnnneimpdiadhaaDoor.Vec
open Go.RowKit
set_option linter.unusedVariables false

theorem mulF_val {x k : Int} (hk : 0 ≤ k) (h : x * k ≤ 9223372036854775807) : mulF x k = (x * k, 0) := by
  unfold mulF; rw [if_neg (by omega), if_pos h]
theorem mulF_over {x k : Int} (hk : 0 ≤ k) (h : ¬ x * k ≤ 9223372036854775807) : mulF x k = (0, 5) := by
  unfold mulF; rw [if_neg (by omega), if_neg h]

theorem mul_spec {l : V} {k : Int} (h : Gd l) (hl : l.length ≤ 8) (hk : 0 ≤ k) :
    ((∃ n, 9223372036854775807 < getV l n * k) ∧ eachV mulF k l = (5, [])) ∨
    ((∀ n, getV l n * k ≤ 9223372036854775807) ∧ ∃ r, eachV mulF k l = (0, r) ∧ Made (fun n => getV l n * k) r) := by
  have hcode : ∀ x, 0 ≤ x ∧ x ≤ 9223372036854775807 → (mulF x k).2 = 0 ∨ (mulF x k).2 = 5 := fun x _ => by
    by_cases h : x * k ≤ 9223372036854775807
    · rw [mulF_val hk h]; exact .inl rfl
    · rw [mulF_over hk h]; exact .inr rfl
  have e : eachV mulF k l = eachAcc mulF k l [] := by unfold eachV; rw [if_neg (by rw [good_check h hl]; decide)]
  rcases each_spec (f := mulF) (k := k) (by rw [mulF_val hk (by omega)]; simp) hcode (fun x hx => mulF_bd hx.1 hx.2) l h with ⟨⟨n, hn⟩, hb⟩ | ⟨hn, r, hr, hm, _⟩
  · refine .inl ⟨⟨n, ?_⟩, by rw [e, hb]⟩
    by_cases g : getV l n * k ≤ 9223372036854775807
    · rw [mulF_val hk g] at hn; exact absurd rfl hn
    · omega
  · have hall : ∀ n, getV l n * k ≤ 9223372036854775807 := fun n => by
      by_cases g : getV l n * k ≤ 9223372036854775807
      · exact g
      · have := hn n; rw [mulF_over hk g] at this; cases this
    exact .inr ⟨hall, r, by rw [e, hr]; rfl, hm.1, fun n => by rw [hm.2 n]; show (mulF _ _).1 = _; rw [mulF_val hk (hall n)]⟩

theorem part_whole {l : V} (h : Gd l) (hl : l.length ≤ 8) : eachV partF 1000 l = (0, l) := by
  have hv : ∀ x : Int, x ≤ 9223372036854775807 → partF x 1000 = (x, 0) := fun x hx => by
    have : parQ x 1000 = x := by unfold parQ; omega
    unfold partF; rw [if_neg (by decide), this, if_pos hx]
  have e : eachV partF 1000 l = eachAcc partF 1000 l [] := by unfold eachV; rw [if_neg (by rw [good_check h hl]; decide)]
  rcases each_spec (f := partF) (k := 1000) (hv 0 (by decide)) (fun x hx => .inl (by rw [hv x hx.2])) (fun x hx => by rw [hv x hx.2]; exact hx) l h with ⟨⟨n, hn⟩, _⟩ | ⟨_, r, hr, hm, _⟩
  · rw [hv _ (get_bd n h).2] at hn; exact absurd rfl hn
  · have : r = l := Gd.ext hm.1 h fun n => by rw [hm.2 n]; show (partF _ _).1 = _; rw [hv _ (get_bd n h).2]
    rw [e, hr, this]; rfl
theorem part_none {l : V} (h : Gd l) (hl : l.length ≤ 8) : eachV partF 0 l = (0, []) := by
  have hv : ∀ x : Int, partF x 0 = (0, 0) := fun x => by
    have : parQ x 0 = 0 := by unfold parQ; omega
    unfold partF; rw [if_neg (by decide), this, if_pos (by decide)]
  have e : eachV partF 0 l = eachAcc partF 0 l [] := by unfold eachV; rw [if_neg (by rw [good_check h hl]; decide)]
  rcases each_spec (f := partF) (k := 0) (hv 0) (fun x hx => .inl (by rw [hv x])) (fun x hx => by rw [hv x]; decide) l h with ⟨⟨n, hn⟩, _⟩ | ⟨_, r, hr, hm, _⟩
  · rw [hv] at hn; exact absurd rfl hn
  · have : r = [] := Gd.ext hm.1 Gd.nil fun n => by rw [hm.2 n]; show (partF _ _).1 = _; rw [hv]; rfl
    rw [e, hr, this]; rfl

/-- Added so often. -/
def Often (j : Nat) (l s : V) : Prop := Made (fun n => (j : Int) * getV l n) s ∧ s.length ≤ 8
theorem often_zero (l : V) : Often 0 l [] := ⟨⟨Gd.nil, fun n => by show (0 : Int) = ((0 : Nat) : Int) * _; simp⟩, by decide⟩
theorem often_step {l s : V} {j : Nat} (h : Gd l) (hl : l.length ≤ 8) (hs : Often j l s) :
    ((∃ n, 9223372036854775807 < ((j + 1 : Nat) : Int) * getV l n) ∧ mergedV addF s l = (5, [])) ∨ (∃ r, mergedV addF s l = (0, r) ∧ Often (j + 1) l r) := by
  have hm : ∀ n, ((j + 1 : Nat) : Int) * getV l n = getV s n + getV l n := fun n => by rw [hs.1.2 n]; dsimp only; rw [Int.natCast_add, Int.add_mul]; simp
  rcases merged_spec rk_add hs.1.1 h hs.2 hl with ⟨⟨n, hn⟩, e⟩ | ⟨hn, r, hr, hlen⟩
  · refine .inl ⟨⟨n, ?_⟩, e⟩
    rw [hm n]
    by_cases g : getV s n + getV l n ≤ 9223372036854775807
    · exact absurd ((addF_code _ _).2 g) hn
    · omega
  · have hr' : Made (fun n => ((j + 1 : Nat) : Int) * getV l n) r := ⟨hr.1, fun n => by rw [hr.2 n]; show (addF _ _).1 = _; rw [addF_val ((addF_code _ _).1 (hn n))]; exact (hm n).symm⟩
    have h8 : r.length ≤ l.length := Gd.len hr.1 h fun n hne e0 => hne (by rw [hr'.2 n]; dsimp only; rw [e0]; simp)
    rcases hlen with ⟨h9, _⟩ | ⟨_, e⟩
    · omega
    · exact .inr ⟨r, e, hr', by omega⟩
/-- Where the sum of fewer is too great, so is the product. -/
theorem often_over {l : V} {j k : Nat} (h : Gd l) (hl : l.length ≤ 8) (hj : j + 1 ≤ k) (ho : ∃ n, 9223372036854775807 < ((j + 1 : Nat) : Int) * getV l n) : eachV mulF (k : Int) l = (5, []) := by
  obtain ⟨n, hn⟩ := ho
  rcases mul_spec h hl (Int.natCast_nonneg k) with ⟨_, e⟩ | ⟨hall, _⟩
  · exact e
  · have h1 := hall n
    have h2 : ((j + 1 : Nat) : Int) * getV l n ≤ (k : Int) * getV l n := Int.mul_le_mul_of_nonneg_right (by omega) (get_bd n h).1
    rw [Int.mul_comm] at h1
    omega
theorem often_all {l s : V} {k : Nat} (h : Gd l) (hl : l.length ≤ 8) (hs : Often k l s) : eachV mulF (k : Int) l = (0, s) := by
  have hb : ∀ n, getV l n * (k : Int) ≤ 9223372036854775807 := fun n => by
    have := (get_bd n hs.1.1).2; rw [hs.1.2 n] at this; dsimp only at this; rw [Int.mul_comm]; exact this
  rcases mul_spec h hl (Int.natCast_nonneg k) with ⟨⟨n, hn⟩, _⟩ | ⟨_, r, e, hr⟩
  · have := hb n; omega
  · rw [e, Gd.ext hr.1 hs.1.1 fun n => by rw [hr.2 n, hs.1.2 n]; dsimp only; rw [Int.mul_comm]]

end Go.Proofs.YtnnneimpdiadhaaDoor.Vec
