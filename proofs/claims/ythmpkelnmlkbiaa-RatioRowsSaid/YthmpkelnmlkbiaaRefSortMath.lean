/- Leading one float in among those that are in order: plain. -/
import Derived.Test.YthmpkelnmlkbiaaRatioRows
import Derived.Test.YthmpkelnmlkbiaaRatioOrder
namespace Go.Proofs.Ythmpkelnmlkbiaa
set_option linter.unusedVariables false

/-- os with x led in at k. -/
def insAt (os : List Nat) (k x : Nat) : List Nat := os.take k ++ x :: os.drop k

theorem insAt_len (os : List Nat) {k : Nat} (x : Nat) (hk : k ≤ os.length) : (insAt os k x).length = os.length + 1 := by
  unfold insAt
  rw [List.length_append, List.length_cons, List.length_take, List.length_drop]; omega

theorem insAt_get (os : List Nat) {k : Nat} (x : Nat) (hk : k ≤ os.length) (j : Nat) : (insAt os k x).getD j 0 = if j < k then os.getD j 0 else if j = k then x else os.getD (j - 1) 0 := by
  have hl : (os.take k).length = k := by rw [List.length_take]; omega
  unfold insAt
  simp only [List.getD]
  by_cases h1 : j < k
  · rw [if_pos h1, List.getElem?_append_left (by omega), List.getElem?_take, if_pos h1]
  · rw [if_neg h1, List.getElem?_append_right (by omega), hl]
    by_cases h2 : j = k
    · rw [if_pos h2, h2]; simp
    · rw [if_neg h2]
      obtain ⟨d, rfl⟩ : ∃ d, j = k + d + 1 := ⟨j - k - 1, by omega⟩
      rw [show k + d + 1 - k = d + 1 from by omega, List.getElem?_cons_succ, List.getElem?_drop, show k + d + 1 - 1 = k + d from by omega]

theorem insAt_asc {os : List Nat} {k x : Nat} (ha : Asc os) (hk : k ≤ os.length) (h1 : k = 0 ∨ ¬ 0 < cp (os.getD (k - 1) 0) x) (h2 : k = os.length ∨ 0 < cp (os.getD k 0) x) : Asc (insAt os k x) := by
  have mono : ∀ i j, i ≤ j → j < os.length → key (os.getD i 0) ≤ key (os.getD j 0) := fun i j hij hj => by
    rcases Nat.lt_or_eq_of_le hij with g | g
    · exact ha i j g hj
    · rw [g]; exact Int.le_refl _
  have lo : ∀ i, i < k → key (os.getD i 0) ≤ key x := fun i hi => by
    rcases h1 with h | h
    · omega
    · have a := mono i (k - 1) (by omega) (by omega)
      have b : ¬ key x < key (os.getD (k - 1) 0) := fun g => h (cp_pos.2 g)
      omega
  have hi : ∀ i, k ≤ i → i < os.length → key x ≤ key (os.getD i 0) := fun i hik hi => by
    rcases h2 with h | h
    · omega
    · have a := mono k i hik hi
      have b := cp_pos.1 h
      omega
  intro i j hij hj
  rw [insAt_len os x hk] at hj
  rw [insAt_get os x hk, insAt_get os x hk]
  by_cases c1 : j < k
  · rw [if_pos c1, if_pos (by omega)]; exact mono _ _ (by omega) (by omega)
  · rw [if_neg c1]
    by_cases c2 : j = k
    · rw [if_pos c2, if_pos (by omega)]; exact lo _ (by omega)
    · rw [if_neg c2]
      by_cases c3 : i < k
      · rw [if_pos c3]; exact mono _ _ (by omega) (by omega)
      · rw [if_neg c3]
        by_cases c4 : i = k
        · rw [if_pos c4]; exact hi _ (by omega) (by omega)
        · rw [if_neg c4]; exact mono _ _ (by omega) (by omega)

theorem insAt_perm {os l : List Nat} {i k : Nat} (hp : os.Perm (l.take i)) (hi : i < l.length) : (insAt os k (l.getD i 0)).Perm (l.take (i + 1)) := by
  unfold insAt
  refine List.perm_middle.trans ?_
  rw [List.take_append_drop]
  have e : l.getD i 0 = l[i] := by simp [List.getD, hi]
  rw [List.take_succ_eq_append_getElem hi, e]
  exact (hp.cons _).trans (List.perm_append_comm (l₁ := [l[i]]))

end Go.Proofs.Ythmpkelnmlkbiaa
