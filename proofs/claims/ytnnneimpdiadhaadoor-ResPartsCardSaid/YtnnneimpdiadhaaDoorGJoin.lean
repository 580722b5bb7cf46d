/- Rows and texts, of no program. -/
import Derived.Test.YtnnneimpdiadhaaDoorLabName
import Derived.Test.YtnnneimpdiadhaaDoorShelf
import Derived.Lib.Join
namespace Go.Proofs.YtnnneimpdiadhaaDoor
open Go.RowKit
set_option linter.unusedVariables false

theorem drop_end {α : Type} {l : List α} {k : Nat} (h : ¬ k < l.length) : l.drop k = [] := List.drop_of_length_le (by omega)
theorem all_cons {α : Type} (f : α → Bool) (x : α) (t : List α) : (x :: t).all f = (f x && t.all f) := rfl
theorem take_snoc {α : Type} {l : List α} {k : Nat} {x : α} (h : l[k]? = some x) : l.take (k + 1) = l.take k ++ [x] := by rw [List.take_add_one, h]; rfl
theorem Own.snoc {α : Type} {L : Lay α} {e : TypeId} {w : World} {base n : Nat} {v : Value} {l : List α} {x : α} (h : w.ownsRow base e L.m v n (rowCells L l ++ L.cs x)) (hn : l.length + 1 = n) (hf : ∀ z ∈ l, L.fine z) (hx : L.fine x) : Own L e w base v (l ++ [x]) := by
  refine ⟨?_, fun z hz => ?_⟩
  · rw [List.length_append, rowCells_append]
    show w.ownsRow base e L.m v (l.length + 1) (rowCells L l ++ rowCells L [x])
    rw [hn]
    have e : rowCells L [x] = L.cs x := by unfold rowCells; simp
    rw [e]; exact h
  · rcases List.mem_append.1 hz with g | g
    · exact hf z g
    · have : z = x := by simpa using g
      rw [this]; exact hx
/-- What a call answers that makes a row: it reads so. -/
def Got {α : Type} (L : Lay α) (c : Int) (l : List α) (w : World) (e : Ending) (w' : World) : Prop := ∃ v, e = .returned (.tuple #[v, .int .i64 c]) ∧ Reads L w' v l ∧ Kept w w'
/-- One value answered; nothing that was there has changed. -/
def Say (v : Value) (w : World) (e : Ending) (w' : World) : Prop := e = .returned v ∧ Kept w w'
theorem Reads.nil {α : Type} {L : Lay α} (w : World) : Reads L w (.slice none 0 0) [] := ⟨none, 0, rfl, Nat.le_refl _, by decide, RowAt.nil w none⟩
theorem Reads.fine {α : Type} {L : Lay α} {v : Value} {l : List α} {w : World} (h : Reads L w v l) : ∀ x ∈ l, L.fine x := by
  obtain ⟨a, cap, rfl, h1, h2, h3⟩ := h
  exact h3.2.2.1
theorem RowAt.part {α : Type} {L : Lay α} {w : World} {b off len : Nat} {l : List α} (h : RowAt L w (some ⟨b, off, none⟩) len l) (i n : Nat) (hi : i + n ≤ len) :
    RowAt L w (some ⟨b, off + i * L.m, none⟩) n ((l.drop i).take n) := by
  obtain ⟨h0, h1, h2, h3⟩ := h
  refine ⟨by rw [List.length_take, List.length_drop]; omega, by omega, fun x hx => h2 x (List.mem_of_mem_drop (List.mem_of_mem_take hx)), ?_⟩
  rcases h3 with h3 | ⟨b', off', e, hb, hc⟩
  · exact .inl (by omega)
  · injection e with e; injection e with e1 e2 e3; subst e1; subst e2
    refine .inr ⟨b, _, rfl, hb, fun k x j u hk hj => ?_⟩
    have hkn : k < n := by have := (List.getElem?_eq_some_iff.1 hk).1; rw [List.length_take] at this; omega
    have hk' : l[i + k]? = some x := by
      rw [List.getElem?_take, if_pos hkn, List.getElem?_drop] at hk; exact hk
    have := hc (i + k) x j u hk' hj
    rw [show off + i * L.m + k * L.m + j = off + (i + k) * L.m + j by rw [Nat.add_mul]; omega]
    exact this
theorem drop_pred {α : Type} {l : List α} {k : Nat} {x : α} (hx : l[k]? = some x) : (l.drop k).reverse = (l.drop (k + 1)).reverse ++ [x] := by
  obtain ⟨hlt, he⟩ := List.getElem?_eq_some_iff.1 hx
  rw [List.drop_eq_getElem_cons hlt, List.reverse_cons, he]
theorem strInfo : (Tryd.prog.info? 9).map (fun i => (i.zero, i.size, i.bytes)) = some (some (.string ByteArray.empty), 1, 16) := by kernel_rfl
/-- The first k texts, behind them empty ones. -/
def fills (ts : List ByteArray) (n k : Nat) : List Value := (ts.take k).map Value.string ++ List.replicate (n - k) (.string ByteArray.empty)
theorem fills_zero (ts : List ByteArray) (n : Nat) : fills ts n 0 = List.replicate n (.string ByteArray.empty) := by simp [fills]
theorem fills_all {ts : List ByteArray} {n : Nat} (h : ts.length = n) : fills ts n n = ts.map Value.string := by
  unfold fills; rw [List.take_of_length_le (by omega), Nat.sub_self]; simp
theorem fills_set {ts : List ByteArray} {n k : Nat} {x : ByteArray} (hl : ts.length = n) (hx : ts[k]? = some x) : (fills ts n k).set k (.string x) = fills ts n (k + 1) := by
  have hk : k < ts.length := (List.getElem?_eq_some_iff.1 hx).1
  unfold fills
  have e1 : ((ts.take k).map Value.string).length = k := by rw [List.length_map, List.length_take]; omega
  have e2 : n - k = (n - (k + 1)) + 1 := by omega
  rw [List.set_append_right _ _ (by omega), e1, Nat.sub_self, e2, List.replicate_succ, List.set_cons_zero, List.take_add_one, hx]
  simp
theorem ownsRow_kept {w w' : World} {base n : Nat} {e : TypeId} {m : Nat} {v : Value} {xs : List Value} (h : w.ownsRow base e m v n xs) (k : Kept w w') : w'.ownsRow base e m v n xs := by
  obtain ⟨h0, h1⟩ := h
  refine ⟨h0, h1.imp id ?_⟩
  rintro ⟨g, cap, cur, rfl, hbg, hg, hn, hm, hs, ht⟩
  refine ⟨g, cap, cur, rfl, hbg, ?_, hn, hm, hs, ht⟩
  have hlt : g < w.heap.size := by
    rcases Nat.lt_or_ge g w.heap.size with hlt | hge
    · exact hlt
    · rw [Array.getElem?_eq_none hge] at hg; cases hg
  exact (k.block g hlt).trans hg
theorem row_cells {w : World} {base p n cap : Nat} {e : TypeId} {xs : List ByteArray} (h : w.ownsRow base e 1 (.slice (some ⟨p, 0, none⟩) n cap) n (xs.map Value.string)) :
    ∀ (j : Nat) x, xs[j]? = some x → w.cell? ⟨p, 0 + j, none⟩ = some (.string x) := by
  intro j x hx
  have := h.cells (g := p) rfl j (.string x) (by simp [hx])
  rw [← this]
  congr 1
  unfold Addr.add
  split <;> simp_all
theorem row_at {w : World} {base p n cap : Nat} {e : TypeId} {xs : List Value} (h : w.ownsRow base e 1 (.slice (some ⟨p, 0, none⟩) n cap) n xs) {k : Nat} {u : Value} (hk : xs[k]? = some u) : w.cell? ⟨p, k, none⟩ = some u := by
  have := h.cells (g := p) rfl k u hk
  rw [← this]
  congr 1
  unfold Addr.add
  split <;> simp_all
theorem fills_at {ts : List ByteArray} {n k : Nat} (hl : ts.length = n) (hk : k < n) : (fills ts n k)[k]? = some (.string ByteArray.empty) := by
  unfold fills
  have e1 : ((ts.take k).map Value.string).length = k := by rw [List.length_map, List.length_take]; omega
  rw [List.getElem?_append_right (by omega), e1, Nat.sub_self, List.getElem?_replicate]
  rw [if_pos (by omega)]
theorem made_strings (n : Nat) : (madeCells (Value.string ByteArray.empty).cells (n * 1)).toList = List.replicate n (.string ByteArray.empty) := by
  simp [madeCells, Value.cells, Nat.mod_one, List.map_const']
def joinB (ts : List ByteArray) : ByteArray := ⟨(Lib.join (ts.map (·.data.toList)) [44]).toArray⟩
theorem joins_le : ∀ (ts : List ByteArray) (B : Nat), (∀ x ∈ ts, x.size ≤ B) → (Lib.join (ts.map (·.data.toList)) [44]).length ≤ ts.length * (B + 1)
  | [], B, _ => by simp [Lib.join]
  | [x], B, h => by
    have := h x (by simp)
    rw [List.map_cons, List.map_nil, Lib.join_one, Array.length_toList, ByteArray.size_data]; simp; omega
  | x :: y :: t, B, h => by
    have h1 := h x (by simp)
    have ih := joins_le (y :: t) B (fun z hz => h z (by simp [hz]))
    have e : (Lib.join ((x :: y :: t).map (·.data.toList)) [44]).length = x.size + 1 + (Lib.join ((y :: t).map (·.data.toList)) [44]).length := by
      have s : (Lib.join ((x :: y :: t).map (·.data.toList)) [44]) = x.data.toList ++ [44] ++ Lib.join ((y :: t).map (·.data.toList)) [44] := by simp [Lib.join, List.intercalate]
      rw [s, List.length_append, List.length_append, Array.length_toList, ByteArray.size_data]; rfl
    rw [e]
    simp only [List.length_cons] at ih ⊢
    rw [Nat.add_mul (t.length + 1) 1 (B + 1), Nat.one_mul]
    omega
theorem joinB_short {ts : List ByteArray} {B : Nat} (h : ∀ x ∈ ts, x.size ≤ B) : (joinB ts).size ≤ ts.length * (B + 1) := by
  have := joins_le ts B h
  unfold joinB
  simpa [ByteArray.size] using this
theorem join_cons2 (x y : List UInt8) (t : List (List UInt8)) : Lib.join (x :: y :: t) [44] = x ++ [44] ++ Lib.join (y :: t) [44] := by simp [Lib.join, List.intercalate]
theorem join_head (b : UInt8) (p : List UInt8) (ps : List (List UInt8)) : Lib.join ((b :: p) :: ps) [44] = b :: Lib.join (p :: ps) [44] := by
  cases ps with
  | nil => rw [Lib.join_one, Lib.join_one]
  | cons q qs => rw [join_cons2, join_cons2]; rfl
theorem joinB_one (x : ByteArray) : joinB [x] = x := by
  apply Go.WideShapes.bytes_inj
  unfold joinB; simp [Lib.join_one]
theorem join_snoc : ∀ (ts : List (List UInt8)) (x : List UInt8), ts ≠ [] → Lib.join (ts ++ [x]) [44] = Lib.join ts [44] ++ [44] ++ x
  | [], _, h => absurd rfl h
  | [p], x, _ => by rw [List.cons_append, List.nil_append, join_cons2, Lib.join_one, Lib.join_one]
  | p :: q :: t, x, _ => by
    have ih := join_snoc (q :: t) x (by simp)
    rw [List.cons_append, List.cons_append, join_cons2, join_cons2]
    rw [List.cons_append] at ih
    rw [ih]; simp
theorem joinB_snoc {ts : List ByteArray} (x : ByteArray) (h : ts ≠ []) : joinB (ts ++ [x]) = joinB ts ++ ⟨#[44]⟩ ++ x := by
  apply Go.WideShapes.bytes_inj
  unfold joinB
  rw [List.map_append]
  show (Lib.join (ts.map (·.data.toList) ++ [x.data.toList]) [44]).toArray.toList = _
  rw [join_snoc _ _ (by simpa using h)]
  simp [ByteArray.data_append]
theorem joinB_size {ts : List ByteArray} (h : ∀ x ∈ ts, x.size ≤ 2000001) : (joinB ts).size ≤ ts.length * 2000002 := by
  have := joins_le ts 2000001 h
  unfold joinB
  simpa [ByteArray.size] using this
def dashed (ts : List ByteArray) : ByteArray := if ts = [] then ⟨#[45]⟩ else joinB ts

end Go.Proofs.YtnnneimpdiadhaaDoor
