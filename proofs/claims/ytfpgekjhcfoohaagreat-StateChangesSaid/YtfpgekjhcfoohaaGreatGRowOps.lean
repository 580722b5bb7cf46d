/- Rows of the call's own, of elements of many cells: cells put anew, copied, cleared. -/
import Derived.Test.YtfpgekjhcfoohaaGreatBase
import Derived.Lib.AppendZerosOnto
import Derived.Lib.Overlaps
set_option linter.unusedVariables false
namespace Go.Proofs.YtfpgekjhcfoohaaGreat
open Go.RowKit
def layC (d : Array Value) : Nat → List Value → Array Value
 | _, [] => d
 | k, x :: r => layC (d.setIfInBounds k x) (k + 1) r
theorem layC_size : ∀ (xs : List Value) (d : Array Value) (k : Nat), (layC d k xs).size = d.size
 | [], _, _ => rfl
 | x :: r, d, k => by rw [layC, layC_size r]; simp
theorem layC_get : ∀ (xs : List Value) (d : Array Value) (k j : Nat), k + xs.length ≤ d.size → (layC d k xs)[j]? = if k ≤ j ∧ j < k + xs.length then xs[j - k]? else d[j]?
 | [], d, k, j, _ => by rw [layC, if_neg (by simp only [List.length_nil]; omega)]
 | x :: r, d, k, j, h => by
  have hl : k + (r.length + 1) ≤ d.size := by simpa using h
  rw [layC, layC_get r _ _ _ (by simp; omega)]
  simp only [List.length_cons]
  by_cases c1 : k + 1 ≤ j ∧ j < k + 1 + r.length
  · rw [if_pos c1, if_pos (by omega), show j - k = (j - (k + 1)) + 1 by omega, List.getElem?_cons_succ]
  · rw [if_neg c1]
    by_cases c2 : j = k
    · subst c2
      rw [if_pos (by omega), Nat.sub_self, List.getElem?_cons_zero, Array.getElem?_setIfInBounds_self_of_lt (by omega)]
    · rw [if_neg (by omega), Array.getElem?_setIfInBounds_ne (by omega)]
theorem heap_cells : ∀ (vs : List Value) (g o : Nat) (w : World) (cur : Array Value) (e : TypeId), w.heap[g]? = some (.cells cur e (0, 0)) → (w.setCells g o vs).heap[g]? = some (.cells (layC cur o vs) e (0, 0))
 | [], _, _, _, _, _, h => h
 | v :: r, g, o, w, cur, e, h => by
  rw [World.setCells, layC]
  exact heap_cells r g (o + 1) _ _ e (heap_setCell_same w g o cur e v h)
theorem owns_parts {w : World} {B : Nat} {e : TypeId} {s g n cap : Nat} {xs : List Value} (h : w.ownsRow B e s (.slice (some ⟨g, 0, none⟩) n cap) n xs) :
 ∃ cur, B ≤ g ∧ w.heap[g]? = some (.cells cur e (0, 0)) ∧ n ≤ cap ∧ cap ≤ maxLen ∧ cur.size = cap * s ∧ cur.toList.take (n * s) = xs ∧ xs.length = n * s := by
 obtain ⟨hl, h⟩ := h
 rcases h with ⟨h0, _⟩ | ⟨g2, cap2, cur, h0, hb, hg, hn, hm, hs, ht⟩
 · cases h0
 · cases h0
   exact ⟨cur, hb, hg, hn, hm, hs, ht, hl⟩
theorem take_of_get {cur : Array Value} {m : Nat} {xs : List Value} (hl : xs.length = m) (hm : m ≤ cur.size) (h : ∀ j, j < m → cur[j]? = xs[j]?) : cur.toList.take m = xs := by
 apply List.ext_getElem?
 intro j
 rw [List.getElem?_take]
 by_cases hj : j < m
 · rw [if_pos hj, Array.getElem?_toList]
   exact h j hj
 · rw [if_neg hj, List.getElem?_eq_none (by omega)]
theorem get_of_take {cur : Array Value} {m j : Nat} {xs : List Value} (ht : cur.toList.take m = xs) (hj : j < m) : cur[j]? = xs[j]? := by
 rw [← ht, List.getElem?_take, if_pos hj, Array.getElem?_toList]
theorem owns_of {w : World} {B : Nat} {e : TypeId} {s g n cap : Nat} {xs : List Value} {cur : Array Value} (hB : B ≤ g) (hg : w.heap[g]? = some (.cells cur e (0, 0))) (hn : n ≤ cap) (hm : cap ≤ maxLen) (hs : cur.size = cap * s) (hl : xs.length = n * s) (h : ∀ j, j < n * s → cur[j]? = xs[j]?) :
 w.ownsRow B e s (.slice (some ⟨g, 0, none⟩) n cap) n xs :=
 ⟨hl, .inr ⟨g, cap, cur, rfl, hB, hg, hn, hm, hs, take_of_get hl (by rw [hs]; exact Nat.mul_le_mul_right s hn) h⟩⟩
theorem owns_put {w : World} {B : Nat} {e : TypeId} {s g n cap o : Nat} {xs vs : List Value} (h : w.ownsRow B e s (.slice (some ⟨g, 0, none⟩) n cap) n xs) (ho : o + vs.length ≤ n * s) :
 (w.setCells g o vs).ownsRow B e s (.slice (some ⟨g, 0, none⟩) n cap) n (xs.take o ++ vs ++ xs.drop (o + vs.length)) := by
 obtain ⟨cur, hB, hg, hn, hm, hs, ht, hl⟩ := owns_parts h
 have hns : n * s ≤ cap * s := Nat.mul_le_mul_right s hn
 refine owns_of hB (heap_cells vs g o w cur e hg) hn hm (by rw [layC_size]; exact hs) (by simp; omega) (fun j hj => ?_)
 rw [layC_get _ _ _ _ (by omega)]
 by_cases c1 : o ≤ j ∧ j < o + vs.length
 · rw [if_pos c1, List.append_assoc, List.getElem?_append_right (by simp; omega), List.getElem?_append_left (by simp; omega)]
   congr 1
   simp; omega
 · rw [if_neg c1, get_of_take ht hj]
   by_cases c2 : j < o
   · rw [List.append_assoc, List.getElem?_append_left (by simp; omega), List.getElem?_take, if_pos c2]
   · rw [List.getElem?_append_right (by simp; omega), List.getElem?_drop]
     congr 1
     simp; omega
theorem owns_cut {w : World} {B : Nat} {e : TypeId} {s g n cap i j : Nat} {xs zs : List Value} (h : w.ownsRow B e s (.slice (some ⟨g, 0, none⟩) n cap) n xs) (hij : i ≤ j) (hj : j ≤ n) (hz : zs.length = (j - i) * s) :
 ((w.setCells g (i * s) (xs.drop (j * s))).setCells g ((i + (n - j)) * s) zs).ownsRow B e s (.slice (some ⟨g, 0, none⟩) (i + (n - j)) cap) (i + (n - j)) (xs.take (i * s) ++ xs.drop (j * s)) := by
 obtain ⟨cur, hB, hg, hn, hm, hs, ht, hl⟩ := owns_parts h
 have hns : n * s ≤ cap * s := Nat.mul_le_mul_right s hn
 have his : i * s ≤ j * s := Nat.mul_le_mul_right s hij
 have hjs : j * s ≤ n * s := Nat.mul_le_mul_right s hj
 have e1 : (i + (n - j)) * s = i * s + (n * s - j * s) := by rw [Nat.add_mul, Nat.sub_mul]
 have e2 : (j - i) * s = j * s - i * s := Nat.sub_mul j i s
 have hld : (xs.drop (j * s)).length = n * s - j * s := by rw [List.length_drop, hl]
 refine owns_of hB (heap_cells zs g _ _ _ e (heap_cells _ g (i * s) w cur e hg)) (by omega) hm (by rw [layC_size, layC_size]; exact hs) (by rw [List.length_append, List.length_take, hld, hl, e1]; omega) (fun t htl => ?_)
 rw [e1] at htl ⊢
 rw [layC_get _ _ _ _ (by rw [layC_size, hz, e2]; omega), if_neg (by omega), layC_get _ _ _ _ (by rw [hld]; omega), hld]
 by_cases c1 : t < i * s
 · rw [if_neg (by omega), get_of_take ht (by omega), List.getElem?_append_left (by rw [List.length_take, hl]; omega), List.getElem?_take, if_pos c1]
 · rw [if_pos (by omega), List.getElem?_append_right (by rw [List.length_take, hl]; omega), List.length_take, hl]
   congr 1
   omega
theorem owns_shift {w : World} {B : Nat} {e : TypeId} {s g n cap i : Nat} {xs vs : List Value} (h : w.ownsRow B e s (.slice (some ⟨g, 0, none⟩) n cap) n xs) (hi : i ≤ n) (hv : vs.length = s) (hr : n + 1 ≤ cap) :
 ((w.setCells g ((i + 1) * s) (xs.drop (i * s))).setCells g (i * s) vs).ownsRow B e s (.slice (some ⟨g, 0, none⟩) (n + 1) cap) (n + 1) (xs.take (i * s) ++ vs ++ xs.drop (i * s)) := by
 obtain ⟨cur, hB, hg, hn, hm, hs, ht, hl⟩ := owns_parts h
 have hns : (n + 1) * s ≤ cap * s := Nat.mul_le_mul_right s hr
 have his : i * s ≤ n * s := Nat.mul_le_mul_right s hi
 have e0 : (n + 1) * s = n * s + s := by rw [Nat.add_mul, Nat.one_mul]
 have e1 : (i + 1) * s = i * s + s := by rw [Nat.add_mul, Nat.one_mul]
 have hld : (xs.drop (i * s)).length = n * s - i * s := by rw [List.length_drop, hl]
 refine owns_of hB (heap_cells vs g _ _ _ e (heap_cells _ g ((i + 1) * s) w cur e hg)) hr hm (by rw [layC_size, layC_size]; exact hs) (by rw [List.length_append, List.length_append, List.length_take, hld, hl, e0]; omega) (fun t htl => ?_)
 rw [e0] at htl
 rw [layC_get _ _ _ _ (by rw [layC_size, hv]; omega), hv]
 by_cases c1 : t < i * s
 · rw [if_neg (by omega), layC_get _ _ _ _ (by rw [hld, e1]; omega), if_neg (by omega), get_of_take ht (by omega), List.append_assoc, List.getElem?_append_left (by rw [List.length_take, hl]; omega), List.getElem?_take, if_pos c1]
 · by_cases c2 : t < i * s + s
   · rw [if_pos (by omega), List.append_assoc, List.getElem?_append_right (by rw [List.length_take, hl]; omega), List.getElem?_append_left (by rw [List.length_take, hl, hv]; omega), List.length_take, hl]
     congr 1
     omega
   · rw [if_neg (by omega), layC_get _ _ _ _ (by rw [hld, e1]; omega), hld, e1, if_pos (by omega), List.getElem?_append_right (by rw [List.length_append, List.length_take, hl, hv]; omega), List.length_append, List.length_take, hl, hv]
     congr 1
     omega
theorem run_copy_wide (w : World) (dT sT ty elem : TypeId) (i0 : TypeInfo) (b o dLen dCap : Nat) (a : Addr) (sLen sCap : Nat) (cs : List Value)
 (hu : Tryz.prog.underlying dT = some (.slice elem)) (hi : Tryz.prog.info? elem = some i0) (hn : cs.length = Nat.min sLen dLen * i0.size)
 (hsrc : ∀ j v, cs[j]? = some v → w.cell? (a.add j) = some v) (hc : ∀ j, j < cs.length → (w.cell? ⟨b, o + j, none⟩).isSome = true) (hf : ∀ j, j < cs.length → w.frozen? ⟨b, o + j, none⟩ = false) (h1 : ∀ v ∈ cs, v.oneCell' = true) :
 (Builtin.copy_ #[dT, sT] ty #[.slice (some ⟨b, o, none⟩) dLen dCap, .slice (some a) sLen sCap]).run Tryz.prog w = .ok (goInt (Nat.min sLen dLen)) (w.setCells b o cs) := by
 have hl := run_loadCells_list (P := Tryz.prog) w a cs hsrc
 have hst := run_storeCells_cells (P := Tryz.prog) b o cs 0 w (by simpa using hc) (by simpa using hf) h1
 simp [Builtin.copy_, run_underlying hu, Builtin.lenOf, Builtin.firstCells, sizeOf, typeInfo, hi, ← hn, hl, hst]
theorem run_clear_wide (w : World) (t e ty : TypeId) (i0 : TypeInfo) (z : Value) (ht : Tryz.prog.underlying t = some (.slice e)) (hi : Tryz.prog.info? e = some i0) (hz : i0.zero = some z) (b o n c : Nat) (hn : 0 < n) (h1 : ∀ v ∈ (Builtin.zeroCells z.cells n).toList, v.oneCell' = true)
 (hc : ∀ j, j < (Builtin.zeroCells z.cells n).size → (w.cell? ⟨b, o + j, none⟩).isSome = true) (hf : ∀ j, j < (Builtin.zeroCells z.cells n).size → w.frozen? ⟨b, o + j, none⟩ = false) :
 (Builtin.clear_ #[t] ty #[.slice (some ⟨b, o, none⟩) n c]).run Tryz.prog w = .ok (.tuple #[]) (w.setCells b o (Builtin.zeroCells z.cells n).toList) := by
 have hst := run_storeCells_cells (P := Tryz.prog) b o (Builtin.zeroCells z.cells n).toList 0 w (by simpa using hc) (by simpa using hf) h1
 simp only [Nat.add_zero] at hst
 obtain ⟨m, rfl⟩ : ∃ m, n = m + 1 := ⟨n - 1, by omega⟩
 simp [Builtin.clear_, run_underlying ht, zeroValue, typeInfo, hi, hz, hst]
end Go.Proofs.YtfpgekjhcfoohaaGreat
