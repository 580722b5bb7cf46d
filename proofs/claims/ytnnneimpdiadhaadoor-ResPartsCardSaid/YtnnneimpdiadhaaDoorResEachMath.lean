/- A vector amount by amount: plain words. -/
import Derived.Test.YtnnneimpdiadhaaDoorResMergeMath
namespace Go.Proofs.YtnnneimpdiadhaaDoor.Vec
open Go.RowKit
set_option linter.unusedVariables false

def eachAcc (f : Int → Int → Int × Int) (n : Int) : V → V → Int × V
  | [], acc => (0, acc)
  | x :: t, acc => if (f x.2 n).2 ≠ 0 then ((f x.2 n).2, []) else eachAcc f n t (plusV acc x.1 (f x.2 n).1)
def eachV (f : Int → Int → Int × Int) (n : Int) (l : V) : Int × V := if checkV l ≠ 0 then (checkV l, []) else eachAcc f n l []

theorem eachAcc_none (f : Int → Int → Int × Int) (n : Int) : ∀ (l acc : V), (eachAcc f n l acc).1 ≠ 0 → (eachAcc f n l acc).2 = []
  | [], acc => fun h => absurd rfl h
  | x :: t, acc => by
    unfold eachAcc
    split
    · exact fun _ => rfl
    · exact eachAcc_none f n t _
theorem each_end {f : Int → Int → Int × Int} {n : Int} {l acc : V} {k : Nat} (h : ¬ k < l.length) : eachAcc f n (l.drop k) acc = (0, acc) := by
  rw [List.drop_of_length_le (by omega)]; rfl
theorem each_bad {f : Int → Int → Int × Int} {n : Int} {l acc : V} {k : Nat} (h : k < l.length) (hx : (f (qn l k) n).2 ≠ 0) : eachAcc f n (l.drop k) acc = ((f (qn l k) n).2, []) := by
  rw [drop_cons h, eachAcc, if_pos hx]
theorem each_next {f : Int → Int → Int × Int} {n : Int} {l acc : V} {k : Nat} (h : k < l.length) (hx : (f (qn l k) n).2 = 0) : eachAcc f n (l.drop k) acc = eachAcc f n (l.drop (k + 1)) (plusV acc (nm l k) (f (qn l k) n).1) := by
  rw [drop_cons h, eachAcc, if_neg (by rw [hx]; decide)]
theorem mem_at {l : V} {k : Nat} (h : k < l.length) : (nm l k, qn l k) ∈ l := by
  have : l.getD k (ByteArray.empty, 0) = l[k] := by simp [List.getD, h]
  have e : (nm l k, qn l k) = l[k] := by simp only [nm, qn, this]
  rw [e]; exact List.getElem_mem h
theorem mulF_bd {x n : Int} (h : 0 ≤ x) (h' : x ≤ 9223372036854775807) : 0 ≤ (mulF x n).1 ∧ (mulF x n).1 ≤ 9223372036854775807 := by
  unfold mulF
  split
  · decide
  · split
    · exact ⟨mul_nonneg' h (by omega), by assumption⟩
    · decide
theorem partF_bd {x n : Int} (h : 0 ≤ x) (h' : x ≤ 9223372036854775807) : 0 ≤ (partF x n).1 ∧ (partF x n).1 ≤ 9223372036854775807 := by
  unfold partF
  split
  · decide
  · split
    · have := mul_nonneg' h (show 0 ≤ n by omega)
      exact ⟨by unfold parQ; dsimp only; omega, by assumption⟩
    · decide

end Go.Proofs.YtnnneimpdiadhaaDoor.Vec
