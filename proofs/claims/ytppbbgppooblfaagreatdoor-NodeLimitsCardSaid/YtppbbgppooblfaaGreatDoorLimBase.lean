/- As many nodes as may be, in order, and two exchanged: what they are. -/
import Derived.Test.YtppbbgppooblfaaGreatDoorNodC
namespace Go.Proofs.YtppbbgppooblfaaGreatDoor.Nk
open Go.RowKit
set_option linter.unusedVariables false

def nmL (j : Nat) : List UInt8 := [110, UInt8.ofNat (97 + j / 26), UInt8.ofNat (97 + j % 26)]
def ndL (j : Nat) : Nod := ⟨bytes (nmL j), [(bCpu, 1)], [], [], false⟩
theorem nm_name : ∀ j, j < 36 → isName (bytes (nmL j)) = true := by decide +kernel
theorem chk_c1 : Vec.checkV [(bCpu, 1)] = 0 := by simp [Vec.checkV, Vec.checkFrom, mc, Vec.behindB]
theorem nd_chk {j : Nat} (h : j < 36) : chkNod (ndL j) = 0 := by
  unfold chkNod ndL
  dsimp only
  rw [nm_name j h, if_neg (by decide), chk_c1, if_neg (fun h => h rfl), chk_0p, if_neg (fun h => h rfl), chk_0t]
theorem nm_less : ∀ a, a < 36 → ∀ b, b < 36 → (Op.bytesLess (nmL a) (nmL b) || nmL a == nmL b) = decide (a ≤ b) := by decide +kernel
theorem nm_le {a b : Nat} (ha : a < 36) (hb : b < 36) : leS (bytes (nmL a)) (bytes (nmL b)) = decide (a ≤ b) := by
  rw [← nm_less a ha b hb]
  unfold leS
  rw [lt_list, eq_list]
  simp [bytes]
def upJ : Option Nat → List Nat → Bool
  | _, [] => true
  | none, j :: t => upJ (some j) t
  | some q, j :: t => if j ≤ q then false else upJ (some j) t
theorem chk_up : ∀ (l : List Nat) (p : Option Nat), (∀ j ∈ l, j < 36) → (∀ q, p = some q → q < 36) → chkFromN (p.map fun q => bytes (nmL q)) (l.map ndL) = if upJ p l = true then 0 else 13
  | [], p, _, _ => by rw [List.map_nil, chkFromN, upJ, if_pos rfl]
  | j :: t, none, hl, hp => by
    have hj := hl j (List.mem_cons_self ..)
    rw [List.map_cons, Option.map_none, chkN_next (nd_chk hj) (show Vec.behindB none _ = false from rfl), upJ]
    exact chk_up t (some j) (fun x hx => hl x (List.mem_cons_of_mem _ hx)) (fun q hq => by cases hq; exact hj)
  | j :: t, some q, hl, hp => by
    have hj := hl j (List.mem_cons_self ..)
    have hq := hp q rfl
    have hb : Vec.behindB ((some q).map fun q => bytes (nmL q)) (ndL j).name = decide (j ≤ q) := nm_le hj hq
    rw [List.map_cons, upJ]
    by_cases h : j ≤ q
    · rw [chkN_order (nd_chk hj) (hb.trans (decide_eq_true h)), if_pos h, if_neg (by decide)]
    · rw [chkN_next (nd_chk hj) (hb.trans (decide_eq_false h)), if_neg h]
      exact chk_up t (some j) (fun x hx => hl x (List.mem_cons_of_mem _ hx)) (fun q hq => by cases hq; exact hj)
/-- Two neighbours exchanged. -/
def swJ (i j : Nat) : Nat := if j = i then i + 1 else if j = i + 1 then i else j
theorem up_all : ∀ k, k < 33 → upJ none (List.range k) = true := by decide +kernel
theorem up_sw : ∀ k, k < 33 → ∀ i, i < k - 1 → upJ none ((List.range k).map (swJ i)) = false := by decide +kernel
theorem all_up {k : Nat} (hk : k < 36) : chkAllN ((List.range k).map ndL) = if 32 < k then 4 else 0 := by
  unfold chkAllN
  rw [List.length_map, List.length_range]
  by_cases h : 32 < k
  · rw [if_pos h, if_pos h]
  · rw [if_neg h, if_neg h]
    have := chk_up (List.range k) none (fun j hj => by have := List.mem_range.1 hj; omega) (fun q hq => by cases hq)
    rw [up_all k (by omega), if_pos rfl] at this
    exact this
theorem all_sw {k i : Nat} (hk : k < 36) (hi : i < k - 1) : chkAllN ((List.range k).map fun j => ndL (swJ i j)) = if 32 < k then 4 else 13 := by
  have e : ((List.range k).map fun j => ndL (swJ i j)) = ((List.range k).map (swJ i)).map ndL := by rw [List.map_map]; rfl
  rw [e]
  unfold chkAllN
  rw [List.length_map, List.length_map, List.length_range]
  by_cases h : 32 < k
  · rw [if_pos h, if_pos h]
  · rw [if_neg h, if_neg h]
    have := chk_up ((List.range k).map (swJ i)) none (fun j hj => by
      obtain ⟨x, hx, rfl⟩ := List.mem_map.1 hj
      have := List.mem_range.1 hx
      unfold swJ
      split
      · omega
      · split <;> omega) (fun q hq => by cases hq)
    rw [up_sw k (by omega) i hi, if_neg (by decide)] at this
    exact this

/-- A node and the block of its vector. -/
theorem one_lim (x : ByteArray) (b : Nat) (u : Value) (h : u ∈ [Value.string x, .slice (some ⟨b, 0, none⟩) 1 1, .slice none 0 0, .slice none 0 0, .bool false]) : u.oneCell' = true := by
  simp only [List.mem_cons, List.not_mem_nil, or_false] at h
  rcases h with rfl | rfl | rfl | rfl | rfl <;> rfl
def LimLay : Lay (Nat × Nat) := { m := 5, cs := fun x => [.string (bytes (nmL x.1)), .slice (some ⟨x.2, 0, none⟩) 1 1, .slice none 0 0, .slice none 0 0, .bool false], fine := fun _ => True, len := fun _ => rfl, one := fun x => one_lim (bytes (nmL x.1)) x.2, pos := by decide }
/-- The vectors that the nodes lead to lie elsewhere. -/
def LimVec (w : World) (v : Value) (l : List (Nat × Nat)) : Prop := ∀ x ∈ l, w.cell? ⟨x.2, 0, none⟩ = some (.string bCpu) ∧ w.cell? ⟨x.2, 1, none⟩ = some (.int .i64 1) ∧ x.2 < w.heap.size ∧ v.ownBlock ≠ some x.2
theorem lim_vec {w : World} {b : Nat} (h0 : w.cell? ⟨b, 0, none⟩ = some (.string bCpu)) (h1 : w.cell? ⟨b, 1, none⟩ = some (.int .i64 1)) (hb : b < w.heap.size) : Vec.Reads w (.slice (some ⟨b, 0, none⟩) 1 1) [(bCpu, 1)] := by
  refine ⟨_, 1, rfl, Nat.le_refl _, by decide, rfl, (by decide : 1 ≤ maxLen), fun i hi => ?_, .inr ⟨b, 0, rfl, hb, fun i hi => ?_⟩⟩
  · obtain rfl : i = 0 := by simpa using hi
    exact ⟨by decide, by decide, by decide⟩
  · obtain rfl : i = 0 := by simpa using hi
    exact ⟨h0, h1⟩
theorem nodes_lim {w : World} {g k : Nat} {l : List (Nat × Nat)} (h : RowAt LimLay w (some ⟨g, 0, none⟩) k l) (hv : ∀ x ∈ l, w.cell? ⟨x.2, 0, none⟩ = some (.string bCpu) ∧ w.cell? ⟨x.2, 1, none⟩ = some (.int .i64 1) ∧ x.2 < w.heap.size) :
    NodesAt w (some ⟨g, 0, none⟩) k (l.map fun x => ndL x.1) := by
  obtain ⟨h0, h1, h2, h3⟩ := h
  refine ⟨by rw [List.length_map, h0], h1, ?_⟩
  rcases h3 with h3 | ⟨b, off, e, hb, hc⟩
  · exact .inl h3
  · cases e
    refine .inr ⟨g, 0, rfl, hb, fun i n hi => ?_⟩
    rw [List.getElem?_map] at hi
    obtain ⟨x, hx, rfl⟩ := Option.map_eq_some_iff.1 hi
    obtain ⟨v0, v1, v2⟩ := hv x (List.mem_of_getElem? hx)
    exact ⟨_, _, _, _, _, _, _, _, _, hc i x 0 _ hx rfl, hc i x 1 _ hx rfl, hc i x 2 _ hx rfl, hc i x 3 _ hx rfl, hc i x 4 _ hx rfl,
      ⟨by simp [ndL, nmL, bytes, ByteArray.size]; decide, lim_vec v0 v1 v2, Reads.nil w, Reads.nil w⟩⟩

end Go.Proofs.YtppbbgppooblfaaGreatDoor.Nk
