/- A node filled pod by pod: what is told of it. -/
import Derived.Test.YtjihpbbeoiddkaaGreatStKnown0
namespace Go.Proofs.YtjihpbbeoiddkaaGreat
open Go.RowKit
set_option linter.unusedVariables false

abbrev bA : ByteArray := ⟨#[97]⟩
abbrev bC : ByteArray := ⟨#[99, 112, 117]⟩
/-- The name of pod j. -/
def nmF (j : Nat) : ByteArray := ⟨#[112, UInt8.ofNat (97 + j / 26), UInt8.ofNat (97 + j % 26)]⟩
def rowF (k : Int) (i m : Nat) : List Pd := (List.range' i m).map fun x => podK (nmF x) k bA
def podsF (k : Int) (j : Nat) : List Pd := rowF k 0 j
theorem podsF_succ (k : Int) (j : Nat) : podsF k (j + 1) = podsF k j ++ [podK (nmF j) k bA] := by
  unfold podsF rowF
  rw [List.range'_1_concat, List.map_append, Nat.zero_add]
  rfl
theorem podsF_len (k : Int) (j : Nat) : (podsF k j).length = j := by unfold podsF rowF; rw [List.length_map, List.length_range']
theorem nmF_lt : ∀ j, j < 70 → ∀ i, i < j → ltS (nmF j) (nmF i) = false := by decide +kernel
theorem nmF_ne : ∀ j, j < 70 → ∀ i, i < j → eqS (nmF i) (nmF j) = false := by decide +kernel
theorem nmF_ok : ∀ j, j < 70 → isName (nmF j) = true := by decide +kernel
theorem nmF_size (j : Nat) : (nmF j).size ≤ maxLen := (by decide : (3 : Nat) ≤ maxLen)
theorem drop_same (x : ByteArray) : ∀ l : List Pd, (∀ p ∈ l, eqS p.name x = false) → dropP x l = l
  | [], _ => rfl
  | p :: t, h => by rw [dropP, if_neg (by rw [h p (List.mem_cons_self ..)]; decide), drop_same x t fun q hq => h q (List.mem_cons_of_mem _ hq)]
theorem ins_last (p : Pd) : ∀ l : List Pd, (∀ q ∈ l, ltS p.name q.name = false) → insP p l = l ++ [p]
  | [], _ => rfl
  | q :: t, h => by rw [insP, if_neg (by rw [h q (List.mem_cons_self ..)]; decide), ins_last p t fun q hq => h q (List.mem_cons_of_mem _ hq)]; rfl
theorem mem_full {k : Int} {j : Nat} {p : Pd} (h : p ∈ podsF k j) : ∃ i, i < j ∧ p = podK (nmF i) k bA := by
  unfold podsF rowF at h
  obtain ⟨i, hi, rfl⟩ := List.mem_map.1 h
  have := List.mem_range'_1.1 hi
  exact ⟨i, by omega, rfl⟩
theorem put_full {k : Int} {j : Nat} (h : j < 70) (n : List Nod) (b : List Bd) : putSt ⟨n, podsF k j, b⟩ (podK (nmF j) k bA) = ⟨n, podsF k (j + 1), b⟩ := by
  unfold putSt
  dsimp only
  rw [show (podK (nmF j) k bA).name = nmF j from rfl, drop_same (nmF j) (podsF k j) (fun p hp => by obtain ⟨i, hi, rfl⟩ := mem_full hp; exact nmF_ne j h i hi), ins_last _ (podsF k j) (fun p hp => by obtain ⟨i, hi, rfl⟩ := mem_full hp; exact nmF_lt j h i hi), podsF_succ]
theorem one_ok {k : Int} (h : 0 < k) : Vec.checkV [(bC, k)] = 0 := by
  unfold Vec.checkV
  rw [if_neg (by simp), Vec.checkFrom, if_neg (show ¬ isName bC = false by decide +kernel), if_neg (show ¬ k ≤ 0 by omega), if_neg (by simp [Vec.behindB])]
  rfl
theorem podF_ok {k : Int} {j : Nat} (hj : j < 70) (h : 0 < k) : chkPod (podK (nmF j) k bA) = 0 := by
  have h1 : chkNames (nmF j) ⟨#[]⟩ = 0 := by unfold chkNames; rw [if_pos ⟨nmF_ok j hj, by decide +kernel⟩]
  unfold chkPod
  show orL [chkNames (nmF j) ⟨#[]⟩, chkPrio 0 false, Vec.checkV [(bC, k)], chkS [], chkL [], chkO [], chkSpread ⟨#[]⟩ 0, chkNode bA] = 0
  rw [h1, one_ok h]
  decide +kernel
theorem nodF_ok {c : Int} (h : 0 < c) : chkNod (nodK bA c) = 0 := by
  unfold chkNod
  rw [if_neg (show ¬ isName (nodK bA c).name = false by show ¬ isName bA = false; decide +kernel), show (nodK bA c).cap = [(bC, c)] from rfl, one_ok h, if_neg (by decide)]
  show (if chkS [] ≠ 0 then chkS [] else chkA []) = 0
  decide +kernel
theorem row_ok {k : Int} (h : 0 < k) : ∀ (m i : Nat) (prev : Option ByteArray), i + m ≤ 70 → (prev = none ∨ ∃ t, t + 1 = i ∧ prev = some (nmF t)) → chkFromP prev (rowF k i m) = 0
  | 0, _, _, _, _ => rfl
  | m + 1, i, prev, hm, hp => by
    unfold rowF
    rw [List.range'_succ, List.map_cons, chkP_next (podF_ok (by omega) h) (by
      rcases hp with rfl | ⟨t, rfl, rfl⟩
      · rfl
      · show leS (nmF (t + 1)) (nmF t) = false
        have h1 := nmF_lt (t + 1) (by omega) t (by omega)
        have h2 := nmF_ne (t + 1) (by omega) t (by omega)
        unfold leS
        rw [h1, Bool.false_or]
        unfold eqS at h2 ⊢
        rw [Bool.beq_comm]
        exact h2)]
    exact row_ok h m (i + 1) _ (by omega) (.inr ⟨i, rfl, rfl⟩)
theorem full_pods {k : Int} {j : Nat} (h : 0 < k) (hj : j ≤ 70) : chkAllP (podsF k j) = 0 := by
  unfold chkAllP
  rw [podsF_len, if_neg (by omega)]
  exact row_ok h j 0 none (by omega) (.inl rfl)
theorem full_node {c : Int} (h : 0 < c) : chkAllN [nodK bA c] = 0 := by
  unfold chkAllN
  rw [if_neg (by simp), chkFromN, nodF_ok h, if_neg (by decide), if_neg (by simp [Vec.behindB])]
  rfl
theorem full_find (c : Int) : (findN [nodK bA c] bA).isSome = true := by
  unfold findN
  rw [List.find?_cons_of_pos (p := fun n : Nod => eqS n.name bA) (show eqS bA bA = true by decide +kernel)]
  rfl
theorem full_places {c : Int} : ∀ l : List Pd, (∀ p ∈ l, p.node = bA) → chkPlaces [nodK bA c] l = 0
  | [], _ => rfl
  | p :: t, h => by rw [places_some (by rw [h p (List.mem_cons_self ..)]; exact full_find c)]; exact full_places t fun q hq => h q (List.mem_cons_of_mem _ hq)
theorem plus_one {x : Int} (h : 0 < x) : Vec.plusV [] bC x = [(bC, x)] := by unfold Vec.plusV; rw [if_neg (by omega)]; rfl
theorem add_one {x k : Int} (hx : 0 < x) (hk : 0 < k) (hb : x + k ≤ 1000000) : Vec.mergedV Vec.addF [(bC, x)] [(bC, k)] = (0, [(bC, x + k)]) := by
  have a : Vec.addF x k = (x + k, 0) := by unfold Vec.addF; rw [if_pos (by omega)]
  have f : Vec.foremostV [(bC, x)] [(bC, k)] = bC := by rw [Vec.foremost_cons]; split <;> rfl
  have t : ∀ z, Vec.takenV [(bC, z)] bC = (z, []) := fun z => by rw [Vec.taken_cons, if_pos (Vec.eqS_self _)]
  have e : Vec.mergeAcc Vec.addF 2 [(bC, x)] [(bC, k)] [] = (0, [(bC, x + k)]) := by
    rw [Vec.mergeAcc, if_neg (by simp)]
    dsimp only
    rw [f, t, t]
    dsimp only
    rw [a]
    dsimp only
    rw [if_neg (by decide), Vec.merge_end (by rfl), plus_one (by omega)]
  unfold Vec.mergedV
  rw [one_ok hx, one_ok hk, if_neg (by decide), if_neg (by decide)]
  show (let r := Vec.mergeAcc Vec.addF 2 [(bC, x)] [(bC, k)] []; if r.1 ≠ 0 then (r.1, []) else if 8 < r.2.length then (4, []) else (0, r.2)) = _
  rw [e]
  rfl
theorem add_none {k : Int} (hk : 0 < k) (hb : k ≤ 1000000) : Vec.mergedV Vec.addF [] [(bC, k)] = (0, [(bC, k)]) := by
  have a : Vec.addF 0 k = (k, 0) := by unfold Vec.addF; rw [if_pos (by omega), Int.zero_add]
  have f : Vec.foremostV [] [(bC, k)] = bC := rfl
  have t : ∀ z, Vec.takenV [(bC, z)] bC = (z, []) := fun z => by rw [Vec.taken_cons, if_pos (Vec.eqS_self _)]
  have t0 : Vec.takenV [] bC = (0, []) := rfl
  have e : Vec.mergeAcc Vec.addF 1 [] [(bC, k)] [] = (0, [(bC, k)]) := by
    rw [Vec.mergeAcc, if_neg (by simp)]
    dsimp only
    rw [f, t, t0]
    dsimp only
    rw [a]
    dsimp only
    rw [if_neg (by decide), Vec.merge_end (by rfl), plus_one hk]
  unfold Vec.mergedV
  rw [one_ok hk, if_neg (by decide), if_neg (by decide)]
  show (let r := Vec.mergeAcc Vec.addF 1 [] [(bC, k)] []; if r.1 ≠ 0 then (r.1, []) else if 8 < r.2.length then (4, []) else (0, r.2)) = _
  rw [e]
  rfl
theorem use_row {k : Int} (hk : 0 < k) : ∀ (m i : Nat) (x : Int), 0 < x → x + m * k ≤ 1000000 → useV bA (rowF k i m) [(bC, x)] = (0, [(bC, x + m * k)])
  | 0, i, x, _, _ => by simp [rowF, useV]
  | m + 1, i, x, hx, hb => by
    have he : ((m + 1 : Nat) : Int) * k = k + m * k := by push_cast; rw [Int.add_mul, Int.one_mul, Int.add_comm]
    have h0 : 0 ≤ (m : Int) * k := Int.mul_nonneg (by omega) (by omega)
    rw [he] at hb ⊢
    unfold rowF
    rw [List.range'_succ, List.map_cons, useV_add (show eqS (podK (nmF i) k bA).node bA = true from by show eqS bA bA = true; decide +kernel) (show Vec.mergedV Vec.addF [(bC, x)] (podK (nmF i) k bA).need = (0, [(bC, x + k)]) from add_one hx hk (by omega))]
    have := use_row hk m (i + 1) (x + k) (by omega) (by omega)
    unfold rowF at this
    rw [this, Int.add_assoc]
theorem use_full {k : Int} {j : Nat} (hk : 0 < k) (hb : ((j + 1 : Nat) : Int) * k ≤ 1000000) : useV bA (podsF k (j + 1)) [] = (0, [(bC, ((j + 1 : Nat) : Int) * k)]) := by
  have he : ((j + 1 : Nat) : Int) * k = k + j * k := by push_cast; rw [Int.add_mul, Int.one_mul, Int.add_comm]
  have h0 : 0 ≤ (j : Int) * k := Int.mul_nonneg (by omega) (by omega)
  rw [he] at hb ⊢
  unfold podsF rowF
  rw [List.range'_succ, List.map_cons, useV_add (show eqS (podK (nmF 0) k bA).node bA = true from by show eqS bA bA = true; decide +kernel) (show Vec.mergedV Vec.addF [] (podK (nmF 0) k bA).need = (0, [(bC, k)]) from add_none hk (by omega))]
  exact use_row hk j (0 + 1) k hk hb
theorem fit_one (c u : Int) : Vec.fitsFrom [(bC, c)] [(bC, u)] = decide (u ≤ c) := by
  rw [Vec.fitsFrom, Vec.fitsFrom, Bool.and_true, Vec.getV, if_pos (Vec.eqS_self _)]
theorem chk_full {c k : Int} {j : Nat} (hc : 0 < c) (hc2 : c ≤ 1000000) (hk : 0 < k) (hj : j < 70) (hb : ((j + 1 : Nat) : Int) * k ≤ 1000000) : chkSt ⟨[nodK bA c], podsF k (j + 1), []⟩ = if ((j + 1 : Nat) : Int) * k ≤ c then 0 else 7 := by
  have hor : or3 (chkAllN [nodK bA c]) (chkAllP (podsF k (j + 1))) (chkAllBd []) = 0 := by rw [full_node hc, full_pods hk (by omega)]; decide +kernel
  have hpl : chkPlaces [nodK bA c] (podsF k (j + 1)) = 0 := full_places _ fun p hp => by obtain ⟨i, _, rfl⟩ := mem_full hp; rfl
  have hu : useV (nodK bA c).name (podsF k (j + 1)) [] = (0, [(bC, ((j + 1 : Nat) : Int) * k)]) := use_full hk hb
  have hf : Vec.fitsFrom (nodK bA c).cap [(bC, ((j + 1 : Nat) : Int) * k)] = decide (((j + 1 : Nat) : Int) * k ≤ c) := fit_one _ _
  split
  · rename_i h
    rw [decide_eq_true h] at hf
    rw [st_total hor hpl (by rw [rooms_next hu hf]; rfl), totV_add (show Vec.mergedV Vec.addF [] (nodK bA c).cap = (0, [(bC, c)]) from add_none hc hc2)]
    rfl
  · rename_i h
    rw [decide_eq_false h] at hf
    exact st_rooms hor hpl (rooms_full hu hf) (by decide)
theorem lowF_node (c : Int) : ∀ n ∈ [nodK bA c], LowNod n := fun n hn => by
  obtain rfl := List.mem_singleton.1 hn
  exact ⟨(by decide : (1 : Nat) ≤ 1000000), (by decide : (0 : Nat) ≤ 1000000), (by decide : (0 : Nat) ≤ 1000000)⟩
theorem lowF_pod (x : ByteArray) (c : Int) (y : ByteArray) : LowPd (podK x c y) := ⟨(by decide : (1 : Nat) ≤ 1000000), (by decide : (0 : Nat) ≤ 1000000), (by decide : (0 : Nat) ≤ 1000000), (by decide : (0 : Nat) ≤ 1000000)⟩
theorem lowF (c k : Int) {j : Nat} (h : j ≤ 70) : LowClu ⟨[nodK bA c], podsF k j, []⟩ := ⟨lowF_node c, fun p hp => by obtain ⟨i, _, rfl⟩ := mem_full hp; exact lowF_pod _ _ _, (fun n h => by cases h), (by decide : (1 : Nat) ≤ 100000), (show (podsF k j).length ≤ 100000 by rw [podsF_len]; omega), (by decide : (0 : Nat) ≤ 100000)⟩

end Go.Proofs.YtjihpbbeoiddkaaGreat
