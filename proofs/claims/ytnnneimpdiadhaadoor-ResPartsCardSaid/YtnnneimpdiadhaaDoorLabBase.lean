/- Rows of plain structs as lists: how they lie in memory, whether handed in or the call's own. -/
import Derived.Test.YtnnneimpdiadhaaDoorProg
import Derived.RowKit
import Derived.WalkKit
import Derived.WalkLawsBesides
import Derived.WalkSpells
import Derived.BigQuiet
import Derived.Deep.QuietTactic
import Derived.Lib.Hide
import Derived.Lib.Strings
import Derived.Below
import Derived.LoopTactic
import Derived.Laws.OwnMore
import Derived.Deep.AppendLies
import Derived.RangeFuncRecord
import Derived.OwnWalk
namespace Go.Proofs.YtnnneimpdiadhaaDoor
open Go.RowKit
set_option linter.unusedVariables false

/-- Nothing that was there has changed. -/
def Kept (w w' : World) : Prop := Below w.heap.size w w'
theorem Kept.refl (w : World) : Kept w w := Below.refl _ _
theorem Kept.trans {a b c : World} (h : Kept a b) (k : Kept b c) : Kept a c := Below.trans h (Below.mono k h.size)
theorem Kept.drewN (w : World) (n : Nat) : Kept w (w.drewN n) := below_drewN (Below.refl _ _) n
theorem Kept.drew (w : World) : Kept w w.drew := Kept.drewN w 1
theorem kept_alloc (w : World) (o : Obj) : Kept w (w.alloc o) := (Below.refl _ _).alloc (Nat.le_refl _) _
theorem kept_alloc_drew (w : World) (o : Obj) (n : Nat) : Kept w ((w.drewN n).alloc o) := (kept_alloc w o).trans (Kept.drewN _ n)
theorem kept_two (w : World) (o o' : Obj) : Kept w ((w.alloc o).alloc o') := (kept_alloc w o).trans (kept_alloc _ o')
theorem cell_later {w w' : World} {a : Addr} {u : Value} (k : Kept w w') (h : w.cell? a = some u) : w'.cell? a = some u :=
  (Below.cell k (World.block_lt_of_cell? _ _ h)).trans h

theorem ret_i64 {a b : Int} (h : a = b) : Ending.returned (.int .i64 a) = .returned (.int .i64 b) := by rw [h]
theorem ret_str {a b : ByteArray} (h : a = b) : Ending.returned (.string a) = .returned (.string b) := by rw [h]

/-- Text order, as the model has it. -/
def ltS (s t : ByteArray) : Bool := Op.bytesLess s.toList t.toList
def eqS (s t : ByteArray) : Bool := s.toList == t.toList
def leS (s t : ByteArray) : Bool := ltS s t || eqS s t
theorem eqS_iff {s t : ByteArray} : eqS s t = true ↔ s = t := by
  unfold eqS
  rw [Lib.toList_data, Lib.toList_data, beq_iff_eq]
  constructor
  · intro h
    cases s; cases t
    simp only [ByteArray.mk.injEq]
    exact Array.ext' h
  · rintro rfl; rfl
theorem eqS_self (s : ByteArray) : eqS s s = true := eqS_iff.2 rfl

/-- How an element lies: its cells, m of them. -/
structure Lay (α : Type) where
  m : Nat
  cs : α → List Value
  fine : α → Prop
  len : ∀ x, (cs x).length = m
  one : ∀ x u, u ∈ cs x → u.oneCell' = true
  pos : 0 < m

theorem one_s (x : ByteArray) (u : Value) (h : u ∈ [Value.string x]) : u.oneCell' = true := by
  have e : u = Value.string x := by simpa using h
  rw [e]; rfl
theorem one_ss (x y : ByteArray) (u : Value) (h : u ∈ [Value.string x, Value.string y]) : u.oneCell' = true := by
  have e : u = Value.string x ∨ u = Value.string y := by simpa using h
  rcases e with e | e <;> rw [e] <;> rfl
theorem one_iss (o : Int) (x y : ByteArray) (u : Value) (h : u ∈ [Value.int .i64 o, Value.string x, Value.string y]) : u.oneCell' = true := by
  have e : u = Value.int .i64 o ∨ u = Value.string x ∨ u = Value.string y := by simpa using h
  rcases e with e | e | e <;> rw [e] <;> rfl
def StrLay : Lay ByteArray := { m := 1, cs := fun s => [.string s], fine := fun s => s.size ≤ maxLen, len := fun _ => rfl, one := one_s, pos := by decide }
def PairLay : Lay (ByteArray × ByteArray) := { m := 2, cs := fun x => [.string x.1, .string x.2], fine := fun x => x.1.size ≤ maxLen ∧ x.2.size ≤ maxLen, len := fun _ => rfl, one := fun x => one_ss x.1 x.2, pos := by decide }
def TermLay : Lay (Int × ByteArray × ByteArray) := { m := 3, cs := fun x => [.int .i64 x.1, .string x.2.1, .string x.2.2], fine := fun x => (-9223372036854775808 ≤ x.1 ∧ x.1 ≤ 9223372036854775807) ∧ x.2.1.size ≤ maxLen ∧ x.2.2.size ≤ maxLen, len := fun _ => rfl, one := fun x => one_iss x.1 x.2.1 x.2.2, pos := by decide }

/-- A slice of so many lies at a. -/
def RowAt {α : Type} (L : Lay α) (w : World) (a : Option Addr) (len : Nat) (l : List α) : Prop :=
  l.length = len ∧ len ≤ maxLen ∧ (∀ x ∈ l, L.fine x) ∧
    (len = 0 ∨ ∃ b off, a = some ⟨b, off, none⟩ ∧ b < w.heap.size ∧
      ∀ i x j u, l[i]? = some x → (L.cs x)[j]? = some u → w.cell? ⟨b, off + i * L.m + j, none⟩ = some u)

theorem RowAt.kept {α : Type} {L : Lay α} {w w' : World} {a : Option Addr} {len : Nat} {l : List α} (h : RowAt L w a len l) (k : Kept w w') : RowAt L w' a len l := by
  obtain ⟨h0, h1, h2, h3⟩ := h
  refine ⟨h0, h1, h2, h3.imp id ?_⟩
  rintro ⟨b, off, ha, hb, hc⟩
  exact ⟨b, off, ha, Nat.lt_of_lt_of_le hb k.size, fun i x j u hi hj => (Below.cell k (p := ⟨b, off + i * L.m + j, none⟩) hb).trans (hc i x j u hi hj)⟩

theorem RowAt.nil {α : Type} {L : Lay α} (w : World) (a : Option Addr) : RowAt L w a 0 [] := ⟨rfl, by decide, fun i hi => absurd hi (by simp), .inl rfl⟩
theorem RowAt.form {α : Type} {L : Lay α} {w : World} {a : Option Addr} {len : Nat} {l : List α} (h : RowAt L w a len l) : len = 0 ∨ ∃ b off, a = some ⟨b, off, none⟩ := by
  obtain ⟨_, _, _, h3⟩ := h
  exact h3.imp id fun ⟨b, off, e, _⟩ => ⟨b, off, e⟩

theorem RowAt.cells {α : Type} {L : Lay α} {w : World} {b off len : Nat} {l : List α} {k : Nat} (h : RowAt L w (some ⟨b, off, none⟩) len l) (hk : k < len) :
    ∃ x, l[k]? = some x ∧ l.drop k = x :: l.drop (k + 1) ∧ b < w.heap.size ∧ L.fine x ∧ ∀ (j : Nat) u, (L.cs x)[j]? = some u → w.cell? ⟨b, off + k * L.m + j, none⟩ = some u := by
  obtain ⟨h0, _, hf, h3⟩ := h
  have hkl : k < l.length := by omega
  rcases h3 with h3 | ⟨b', off', e, hb, hc⟩
  · omega
  · injection e with e; injection e with e1 e2 e3; subst e1; subst e2
    have he : l[k]? = some l[k] := List.getElem?_eq_getElem hkl
    exact ⟨l[k], he, List.drop_eq_getElem_cons hkl, hb, hf _ (List.getElem_mem hkl), fun j u hu => hc k _ j u he hu⟩

theorem RowAt.str {w : World} {b off len : Nat} {l : List ByteArray} {k : Nat} (h : RowAt StrLay w (some ⟨b, off, none⟩) len l) (hk : k < len) :
    ∃ x : ByteArray, l[k]? = some x ∧ l.drop k = x :: l.drop (k + 1) ∧ b < w.heap.size ∧ x.size ≤ maxLen ∧ w.cell? ⟨b, off + k, none⟩ = some (.string x) := by
  obtain ⟨x, h1, h2, h3, h4, h5⟩ := h.cells hk
  exact ⟨x, h1, h2, h3, h4, by have := h5 0 _ rfl; simpa [StrLay] using this⟩
theorem RowAt.pair {w : World} {b off len : Nat} {l : List (ByteArray × ByteArray)} {k : Nat} (h : RowAt PairLay w (some ⟨b, off, none⟩) len l) (hk : k < len) :
    ∃ x y : ByteArray, l[k]? = some (x, y) ∧ l.drop k = (x, y) :: l.drop (k + 1) ∧ b < w.heap.size ∧ x.size ≤ maxLen ∧ y.size ≤ maxLen ∧ w.cell? ⟨b, off + k * 2, none⟩ = some (.string x) ∧ w.cell? ⟨b, off + k * 2 + 1, none⟩ = some (.string y) := by
  obtain ⟨⟨x, y⟩, h1, h2, h3, h4, h5⟩ := h.cells hk
  exact ⟨x, y, h1, h2, h3, h4.1, h4.2, h5 0 _ rfl, h5 1 _ rfl⟩
theorem RowAt.term {w : World} {b off len : Nat} {l : List (Int × ByteArray × ByteArray)} {k : Nat} (h : RowAt TermLay w (some ⟨b, off, none⟩) len l) (hk : k < len) :
    ∃ (o : Int) (x y : ByteArray), l[k]? = some (o, x, y) ∧ l.drop k = (o, x, y) :: l.drop (k + 1) ∧ b < w.heap.size ∧ (-9223372036854775808 ≤ o ∧ o ≤ 9223372036854775807) ∧ x.size ≤ maxLen ∧ y.size ≤ maxLen ∧
      w.cell? ⟨b, off + k * 3, none⟩ = some (.int .i64 o) ∧ w.cell? ⟨b, off + k * 3 + 1, none⟩ = some (.string x) ∧ w.cell? ⟨b, off + k * 3 + 2, none⟩ = some (.string y) := by
  obtain ⟨⟨o, x, y⟩, h1, h2, h3, h4, h5⟩ := h.cells hk
  exact ⟨o, x, y, h1, h2, h3, h4.1, h4.2.1, h4.2.2, h5 0 _ rfl, h5 1 _ rfl, h5 2 _ rfl⟩

/-- The cells of all. -/
def rowCells {α : Type} (L : Lay α) (l : List α) : List Value := l.flatMap L.cs
theorem rowCells_length {α : Type} (L : Lay α) : ∀ l : List α, (rowCells L l).length = l.length * L.m
  | [] => by simp [rowCells]
  | x :: t => by
    have := rowCells_length L t
    unfold rowCells at this ⊢
    rw [List.flatMap_cons, List.length_append, this, L.len, List.length_cons, Nat.add_mul, Nat.one_mul, Nat.add_comm]
theorem rowCells_append {α : Type} (L : Lay α) (l m : List α) : rowCells L (l ++ m) = rowCells L l ++ rowCells L m := by unfold rowCells; rw [List.flatMap_append]
theorem rowCells_one {α : Type} (L : Lay α) (l : List α) (u : Value) (h : u ∈ rowCells L l) : u.oneCell' = true := by
  obtain ⟨x, _, hu⟩ := List.mem_flatMap.1 h
  exact L.one x u hu
theorem rowCells_at {α : Type} (L : Lay α) : ∀ (l : List α) (i : Nat) (x : α) (j : Nat) (u : Value), l[i]? = some x → (L.cs x)[j]? = some u → (rowCells L l)[i * L.m + j]? = some u
  | [], i, x, j, u, h, _ => by simp at h
  | y :: t, 0, x, j, u, h, hu => by
    have : y = x := by simpa using h
    subst this
    unfold rowCells
    rw [List.flatMap_cons, Nat.zero_mul, Nat.zero_add, List.getElem?_append_left (List.getElem?_eq_some_iff.1 hu).1]
    exact hu
  | y :: t, i + 1, x, j, u, h, hu => by
    have ih := rowCells_at L t i x j u (by simpa using h) hu
    unfold rowCells at ih ⊢
    rw [List.flatMap_cons, List.getElem?_append_right (by rw [L.len, Nat.add_mul]; omega), L.len]
    have : (i + 1) * L.m + j - L.m = i * L.m + j := by rw [Nat.add_mul]; omega
    rw [this]; exact ih

/-- v is a row of the call's own (from block base on) that reads as l. -/
def Own {α : Type} (L : Lay α) (e : TypeId) (w : World) (base : Nat) (v : Value) (l : List α) : Prop := w.ownsRow base e L.m v l.length (rowCells L l) ∧ ∀ x ∈ l, L.fine x

theorem Own.nil {α : Type} {L : Lay α} (e : TypeId) (w : World) (base : Nat) : Own L e w base (.slice none 0 0) [] := ⟨World.ownsRow_nil w base e L.m, fun x h => by cases h⟩

theorem Own.at_ {α : Type} {L : Lay α} {e : TypeId} {w : World} {base : Nat} {v : Value} {l : List α} (h : Own L e w base v l) :
    ∃ a cap, v = .slice a l.length cap ∧ l.length ≤ cap ∧ cap ≤ maxLen ∧ RowAt L w a l.length l := by
  obtain ⟨h, hf⟩ := h
  have h' := h
  obtain ⟨_, h1⟩ := h
  rcases h1 with ⟨rfl, h0⟩ | ⟨g, cap, cur, rfl, hbg, hg, hn, hm, hs, ht⟩
  · have : l = [] := List.eq_nil_of_length_eq_zero h0
    subst this
    exact ⟨none, 0, rfl, Nat.le_refl _, by decide, RowAt.nil w none⟩
  · refine ⟨_, cap, rfl, hn, hm, rfl, Nat.le_trans hn hm, hf, .inr ⟨g, 0, rfl, ?_, fun i x j u hi hj => ?_⟩⟩
    · rcases Nat.lt_or_ge g w.heap.size with hlt | hge
      · exact hlt
      · rw [Array.getElem?_eq_none hge] at hg; cases hg
    · have c1 := h'.cells (g := g) rfl _ _ (rowCells_at L l i x j u hi hj)
      rw [← c1]
      congr 1
      unfold Addr.add
      split <;> simp_all

theorem Own.kept {α : Type} {L : Lay α} {e : TypeId} {w w' : World} {base : Nat} {v : Value} {l : List α} (h : Own L e w base v l) (k : Kept w w') : Own L e w' base v l := by
  obtain ⟨⟨h0, h1⟩, hf⟩ := h
  refine ⟨⟨h0, h1.imp id ?_⟩, hf⟩
  rintro ⟨g, cap, cur, rfl, hbg, hg, hn, hm, hs, ht⟩
  refine ⟨g, cap, cur, rfl, hbg, ?_, hn, hm, hs, ht⟩
  have hlt : g < w.heap.size := by
    rcases Nat.lt_or_ge g w.heap.size with hlt | hge
    · exact hlt
    · rw [Array.getElem?_eq_none hge] at hg; cases hg
  exact (k.block g hlt).trans hg
theorem Own.base_le {α : Type} {L : Lay α} {e : TypeId} {w : World} {B B' : Nat} {v : Value} {l : List α} (h : Own L e w B' v l) (hb : B ≤ B') : Own L e w B v l := by
  obtain ⟨⟨h0, h1⟩, hf⟩ := h
  refine ⟨⟨h0, h1.imp id ?_⟩, hf⟩
  rintro ⟨g, cap, cur, rfl, hbg, rest⟩
  exact ⟨g, cap, cur, rfl, Nat.le_trans hb hbg, rest⟩
theorem Own.setCell_below {α : Type} {L : Lay α} {e : TypeId} {w : World} {B : Nat} {v : Value} {l : List α} (h : Own L e w B v l) {a : Addr} (ha : a.block < B) (u : Value) : Own L e (w.setCell a u) B v l :=
  ⟨ownsRow_setCell_below h.1 ha u, h.2⟩
theorem Own.put {α : Type} {L : Lay α} {e : TypeId} {w : World} {B D : Nat} {v : Value} {l : List α} (h : Own L e w B v l) (hD : D < B) (o : Obj) : Own L e (w.putObj D o) B v l := by
  obtain ⟨⟨h0, h1⟩, hf⟩ := h
  refine ⟨⟨h0, h1.imp id ?_⟩, hf⟩
  rintro ⟨g, cap, cur, rfl, hbg, hg, rest⟩
  exact ⟨g, cap, cur, rfl, hbg, (World.putObj_heap_other (by omega)).trans hg, rest⟩

/-- A slice that reads as l. -/
def Reads {α : Type} (L : Lay α) (w : World) (v : Value) (l : List α) : Prop := ∃ a cap, v = .slice a l.length cap ∧ l.length ≤ cap ∧ cap ≤ maxLen ∧ RowAt L w a l.length l
theorem Reads.kept {α : Type} {L : Lay α} {w w' : World} {v : Value} {l : List α} (h : Reads L w v l) (k : Kept w w') : Reads L w' v l := by
  obtain ⟨a, cap, e, h1, h2, h3⟩ := h
  exact ⟨a, cap, e, h1, h2, h3.kept k⟩
theorem Own.reads {α : Type} {L : Lay α} {e : TypeId} {w : World} {base : Nat} {v : Value} {l : List α} (h : Own L e w base v l) : Reads L w v l := by
  obtain ⟨a, cap, e, h1, h2, h3⟩ := h.at_
  exact ⟨a, cap, e, h1, h2, h3⟩

/-- A panic with one of the document's errors. -/
abbrev perr (c : Int) : PanicEntry := { v := .iface 29 (.int .i64 c), recovered := false }

end Go.Proofs.YtnnneimpdiadhaaDoor
