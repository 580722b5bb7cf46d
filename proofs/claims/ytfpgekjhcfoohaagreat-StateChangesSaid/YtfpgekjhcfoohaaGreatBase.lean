/- What serves all packages: rows of plain structs, names, lists in words, joined and parted. -/
import Derived.Test.YtfpgekjhcfoohaaGreatShort
import Derived.Test.YtfpgekjhcfoohaaGreatProg
import Derived.RowKit
import Derived.WalkKit
import Derived.WalkLawsBesides
import Derived.WalkSpells
import Derived.BigQuiet
import Derived.Deep.QuietTactic
import Derived.Lib.Hide
import Derived.Lib.Strings
import Derived.Below
import Derived.LoopTactic
import Derived.Laws.OwnMore
import Derived.Deep.AppendLies
import Derived.RangeFuncRecord
import Derived.OwnWalk
import Derived.WideShapes
import Derived.Sort.Grow
import Derived.Shelf.SlSortCmp.QuietGrown
import Derived.Lib.AppendIntMem
import Derived.Lib.Split
import Derived.Lib.Join
import Derived.Lib.ParseIntB
import Derived.Lib.ItoaNum
import Derived.RangeFuncIn
import Derived.RangeFuncCalls
import Derived.RangeFuncLeaves
import Derived.RangeFuncNested
import Derived.RangeFuncBound
import Derived.Shelf.Abstract
import Derived.Shelf.RegionOpen
import Derived.OwnWalkIn
import Derived.TacticsInMore
import Derived.LoopNIn
import Derived.LoopIn
import Derived.Deep.AppendSrc
import Derived.Deep.DeepAppendWide
import Derived.Test.YtfpgekjhcfoohaaGreatRows
import Derived.ProofKit
import Derived.OpenShut
import Derived.ChangeOld
import Derived.ChangeMaps5
import Derived.Deep.Slices
import Derived.Deep.Fields
import Derived.ChangeSame
import Derived.Lib.LaidTab
import Derived.Stop.Joined
import Derived.Shelf.Vars
import Derived.MakeChecks
import Derived.LaidLaws
import Derived.RowKitTokens
import Derived.Laws.IdiomCopy
/- Rows of plain structs as lists: how they lie in memory, whether handed in or the call's own. -/
set_option linter.unusedVariables false
namespace Go.Proofs.YtfpgekjhcfoohaaGreat
open Go.RowKit
def Kept (w w' : World) : Prop := Below w.heap.size w w'
theorem Kept.refl (w : World) : Kept w w := Below.refl _ _
theorem Kept.trans {a b c : World} (h : Kept a b) (k : Kept b c) : Kept a c := Below.trans h (Below.mono k h.size)
theorem Kept.drewN (w : World) (n : Nat) : Kept w (w.drewN n) := below_drewN (Below.refl _ _) n
theorem Kept.drew (w : World) : Kept w w.drew := Kept.drewN w 1
theorem kept_alloc (w : World) (o : Obj) : Kept w (w.alloc o) := (Below.refl _ _).alloc (Nat.le_refl _) _
theorem kept_alloc_drew (w : World) (o : Obj) (n : Nat) : Kept w ((w.drewN n).alloc o) := (kept_alloc w o).trans (Kept.drewN _ n)
theorem kept_two (w : World) (o o' : Obj) : Kept w ((w.alloc o).alloc o') := (kept_alloc w o).trans (kept_alloc _ o')
theorem cell_later {w w' : World} {a : Addr} {u : Value} (k : Kept w w') (h : w.cell? a = some u) : w'.cell? a = some u :=
 (Below.cell k (World.block_lt_of_cell? _ _ h)).trans h
theorem ret_i64 {a b : Int} (h : a = b) : Ending.returned (.int .i64 a) = .returned (.int .i64 b) := by rw [h]
def ltS (s t : ByteArray) : Bool := Op.bytesLess s.toList t.toList
def eqS (s t : ByteArray) : Bool := s.toList == t.toList
def leS (s t : ByteArray) : Bool := ltS s t || eqS s t
theorem eqS_iff {s t : ByteArray} : eqS s t = true ↔ s = t := by
 unfold eqS
 rw [Lib.toList_data, Lib.toList_data, beq_iff_eq]
 constructor
 · intro h
   cases s; cases t
   simp only [ByteArray.mk.injEq]
   exact Array.ext' h
 · rintro rfl; rfl
theorem eqS_self (s : ByteArray) : eqS s s = true := eqS_iff.2 rfl
structure Lay (α : Type) where
 m : Nat
 cs : α → List Value
 fine : α → Prop
 len : ∀ x, (cs x).length = m
 one : ∀ x u, u ∈ cs x → u.oneCell' = true
 pos : 0 < m
theorem one_s (x : ByteArray) (u : Value) (h : u ∈ [Value.string x]) : u.oneCell' = true := by
 have e : u = Value.string x := by simpa using h
 rw [e]; rfl
theorem one_ss (x y : ByteArray) (u : Value) (h : u ∈ [Value.string x, Value.string y]) : u.oneCell' = true := by
 have e : u = Value.string x ∨ u = Value.string y := by simpa using h
 rcases e with e | e <;> rw [e] <;> rfl
theorem one_iss (o : Int) (x y : ByteArray) (u : Value) (h : u ∈ [Value.int .i64 o, Value.string x, Value.string y]) : u.oneCell' = true := by
 have e : u = Value.int .i64 o ∨ u = Value.string x ∨ u = Value.string y := by simpa using h
 rcases e with e | e | e <;> rw [e] <;> rfl
def StrLay : Lay ByteArray := { m := 1, cs := fun s => [.string s], fine := fun s => s.size ≤ maxLen, len := fun _ => rfl, one := one_s, pos := by decide }
def PairLay : Lay (ByteArray × ByteArray) := { m := 2, cs := fun x => [.string x.1, .string x.2], fine := fun x => x.1.size ≤ maxLen ∧ x.2.size ≤ maxLen, len := fun _ => rfl, one := fun x => one_ss x.1 x.2, pos := by decide }
def TermLay : Lay (Int × ByteArray × ByteArray) := { m := 3, cs := fun x => [.int .i64 x.1, .string x.2.1, .string x.2.2], fine := fun x => (-9223372036854775808 ≤ x.1 ∧ x.1 ≤ 9223372036854775807) ∧ x.2.1.size ≤ maxLen ∧ x.2.2.size ≤ maxLen, len := fun _ => rfl, one := fun x => one_iss x.1 x.2.1 x.2.2, pos := by decide }
def RowAt {α : Type} (L : Lay α) (w : World) (a : Option Addr) (len : Nat) (l : List α) : Prop :=
 l.length = len ∧ len ≤ maxLen ∧ (∀ x ∈ l, L.fine x) ∧
  (len = 0 ∨ ∃ b off, a = some ⟨b, off, none⟩ ∧ b < w.heap.size ∧
    ∀ i x j u, l[i]? = some x → (L.cs x)[j]? = some u → w.cell? ⟨b, off + i * L.m + j, none⟩ = some u)
theorem RowAt.kept {α : Type} {L : Lay α} {w w' : World} {a : Option Addr} {len : Nat} {l : List α} (h : RowAt L w a len l) (k : Kept w w') : RowAt L w' a len l := by
 obtain ⟨h0, h1, h2, h3⟩ := h
 refine ⟨h0, h1, h2, h3.imp id ?_⟩
 rintro ⟨b, off, ha, hb, hc⟩
 exact ⟨b, off, ha, Nat.lt_of_lt_of_le hb k.size, fun i x j u hi hj => (Below.cell k (p := ⟨b, off + i * L.m + j, none⟩) hb).trans (hc i x j u hi hj)⟩
theorem RowAt.nil {α : Type} {L : Lay α} (w : World) (a : Option Addr) : RowAt L w a 0 [] := ⟨rfl, by decide, fun i hi => absurd hi (by simp), .inl rfl⟩
theorem RowAt.form {α : Type} {L : Lay α} {w : World} {a : Option Addr} {len : Nat} {l : List α} (h : RowAt L w a len l) : len = 0 ∨ ∃ b off, a = some ⟨b, off, none⟩ := by
 obtain ⟨_, _, _, h3⟩ := h
 exact h3.imp id fun ⟨b, off, e, _⟩ => ⟨b, off, e⟩
theorem RowAt.cells {α : Type} {L : Lay α} {w : World} {b off len : Nat} {l : List α} {k : Nat} (h : RowAt L w (some ⟨b, off, none⟩) len l) (hk : k < len) :
 ∃ x, l[k]? = some x ∧ l.drop k = x :: l.drop (k + 1) ∧ b < w.heap.size ∧ L.fine x ∧ ∀ (j : Nat) u, (L.cs x)[j]? = some u → w.cell? ⟨b, off + k * L.m + j, none⟩ = some u := by
 obtain ⟨h0, _, hf, h3⟩ := h
 have hkl : k < l.length := by omega
 rcases h3 with h3 | ⟨b', off', e, hb, hc⟩
 · omega
 · injection e with e; injection e with e1 e2 e3; subst e1; subst e2
   have he : l[k]? = some l[k] := List.getElem?_eq_getElem hkl
   exact ⟨l[k], he, List.drop_eq_getElem_cons hkl, hb, hf _ (List.getElem_mem hkl), fun j u hu => hc k _ j u he hu⟩
theorem RowAt.str {w : World} {b off len : Nat} {l : List ByteArray} {k : Nat} (h : RowAt StrLay w (some ⟨b, off, none⟩) len l) (hk : k < len) :
 ∃ x : ByteArray, l[k]? = some x ∧ l.drop k = x :: l.drop (k + 1) ∧ b < w.heap.size ∧ x.size ≤ maxLen ∧ w.cell? ⟨b, off + k, none⟩ = some (.string x) := by
 obtain ⟨x, h1, h2, h3, h4, h5⟩ := h.cells hk
 exact ⟨x, h1, h2, h3, h4, by have := h5 0 _ rfl; simpa [StrLay] using this⟩
theorem RowAt.pair {w : World} {b off len : Nat} {l : List (ByteArray × ByteArray)} {k : Nat} (h : RowAt PairLay w (some ⟨b, off, none⟩) len l) (hk : k < len) :
 ∃ x y : ByteArray, l[k]? = some (x, y) ∧ l.drop k = (x, y) :: l.drop (k + 1) ∧ b < w.heap.size ∧ x.size ≤ maxLen ∧ y.size ≤ maxLen ∧ w.cell? ⟨b, off + k * 2, none⟩ = some (.string x) ∧ w.cell? ⟨b, off + k * 2 + 1, none⟩ = some (.string y) := by
 obtain ⟨⟨x, y⟩, h1, h2, h3, h4, h5⟩ := h.cells hk
 exact ⟨x, y, h1, h2, h3, h4.1, h4.2, h5 0 _ rfl, h5 1 _ rfl⟩
theorem RowAt.term {w : World} {b off len : Nat} {l : List (Int × ByteArray × ByteArray)} {k : Nat} (h : RowAt TermLay w (some ⟨b, off, none⟩) len l) (hk : k < len) :
 ∃ (o : Int) (x y : ByteArray), l[k]? = some (o, x, y) ∧ l.drop k = (o, x, y) :: l.drop (k + 1) ∧ b < w.heap.size ∧ (-9223372036854775808 ≤ o ∧ o ≤ 9223372036854775807) ∧ x.size ≤ maxLen ∧ y.size ≤ maxLen ∧
  w.cell? ⟨b, off + k * 3, none⟩ = some (.int .i64 o) ∧ w.cell? ⟨b, off + k * 3 + 1, none⟩ = some (.string x) ∧ w.cell? ⟨b, off + k * 3 + 2, none⟩ = some (.string y) := by
 obtain ⟨⟨o, x, y⟩, h1, h2, h3, h4, h5⟩ := h.cells hk
 exact ⟨o, x, y, h1, h2, h3, h4.1, h4.2.1, h4.2.2, h5 0 _ rfl, h5 1 _ rfl, h5 2 _ rfl⟩
def rowCells {α : Type} (L : Lay α) (l : List α) : List Value := l.flatMap L.cs
theorem rowCells_length {α : Type} (L : Lay α) : ∀ l : List α, (rowCells L l).length = l.length * L.m
 | [] => by simp [rowCells]
 | x :: t => by
  have := rowCells_length L t
  unfold rowCells at this ⊢
  rw [List.flatMap_cons, List.length_append, this, L.len, List.length_cons, Nat.add_mul, Nat.one_mul, Nat.add_comm]
theorem rowCells_append {α : Type} (L : Lay α) (l m : List α) : rowCells L (l ++ m) = rowCells L l ++ rowCells L m := by unfold rowCells; rw [List.flatMap_append]
theorem rowCells_one {α : Type} (L : Lay α) (l : List α) (u : Value) (h : u ∈ rowCells L l) : u.oneCell' = true := by
 obtain ⟨x, _, hu⟩ := List.mem_flatMap.1 h
 exact L.one x u hu
theorem rowCells_at {α : Type} (L : Lay α) : ∀ (l : List α) (i : Nat) (x : α) (j : Nat) (u : Value), l[i]? = some x → (L.cs x)[j]? = some u → (rowCells L l)[i * L.m + j]? = some u
 | [], i, x, j, u, h, _ => by simp at h
 | y :: t, 0, x, j, u, h, hu => by
  have : y = x := by simpa using h
  subst this
  unfold rowCells
  rw [List.flatMap_cons, Nat.zero_mul, Nat.zero_add, List.getElem?_append_left (List.getElem?_eq_some_iff.1 hu).1]
  exact hu
 | y :: t, i + 1, x, j, u, h, hu => by
  have ih := rowCells_at L t i x j u (by simpa using h) hu
  unfold rowCells at ih ⊢
  rw [List.flatMap_cons, List.getElem?_append_right (by rw [L.len, Nat.add_mul]; omega), L.len]
  have : (i + 1) * L.m + j - L.m = i * L.m + j := by rw [Nat.add_mul]; omega
  rw [this]; exact ih
def Own {α : Type} (L : Lay α) (e : TypeId) (w : World) (base : Nat) (v : Value) (l : List α) : Prop := w.ownsRow base e L.m v l.length (rowCells L l) ∧ ∀ x ∈ l, L.fine x
theorem Own.nil {α : Type} {L : Lay α} (e : TypeId) (w : World) (base : Nat) : Own L e w base (.slice none 0 0) [] := ⟨World.ownsRow_nil w base e L.m, fun x h => by cases h⟩
theorem Own.at_ {α : Type} {L : Lay α} {e : TypeId} {w : World} {base : Nat} {v : Value} {l : List α} (h : Own L e w base v l) :
 ∃ a cap, v = .slice a l.length cap ∧ l.length ≤ cap ∧ cap ≤ maxLen ∧ RowAt L w a l.length l := by
 obtain ⟨h, hf⟩ := h
 have h' := h
 obtain ⟨_, h1⟩ := h
 rcases h1 with ⟨rfl, h0⟩ | ⟨g, cap, cur, rfl, hbg, hg, hn, hm, hs, ht⟩
 · have : l = [] := List.eq_nil_of_length_eq_zero h0
   subst this
   exact ⟨none, 0, rfl, Nat.le_refl _, by decide, RowAt.nil w none⟩
 · refine ⟨_, cap, rfl, hn, hm, rfl, Nat.le_trans hn hm, hf, .inr ⟨g, 0, rfl, ?_, fun i x j u hi hj => ?_⟩⟩
   · rcases Nat.lt_or_ge g w.heap.size with hlt | hge
     · exact hlt
     · rw [Array.getElem?_eq_none hge] at hg; cases hg
   · have c1 := h'.cells (g := g) rfl _ _ (rowCells_at L l i x j u hi hj)
     rw [← c1]
     congr 1
     unfold Addr.add
     split <;> simp_all
theorem Own.kept {α : Type} {L : Lay α} {e : TypeId} {w w' : World} {base : Nat} {v : Value} {l : List α} (h : Own L e w base v l) (k : Kept w w') : Own L e w' base v l := by
 obtain ⟨⟨h0, h1⟩, hf⟩ := h
 refine ⟨⟨h0, h1.imp id ?_⟩, hf⟩
 rintro ⟨g, cap, cur, rfl, hbg, hg, hn, hm, hs, ht⟩
 refine ⟨g, cap, cur, rfl, hbg, ?_, hn, hm, hs, ht⟩
 have hlt : g < w.heap.size := by
  rcases Nat.lt_or_ge g w.heap.size with hlt | hge
  · exact hlt
  · rw [Array.getElem?_eq_none hge] at hg; cases hg
 exact (k.block g hlt).trans hg
theorem Own.base_le {α : Type} {L : Lay α} {e : TypeId} {w : World} {B B' : Nat} {v : Value} {l : List α} (h : Own L e w B' v l) (hb : B ≤ B') : Own L e w B v l := by
 obtain ⟨⟨h0, h1⟩, hf⟩ := h
 refine ⟨⟨h0, h1.imp id ?_⟩, hf⟩
 rintro ⟨g, cap, cur, rfl, hbg, rest⟩
 exact ⟨g, cap, cur, rfl, Nat.le_trans hb hbg, rest⟩
theorem Own.setCell_below {α : Type} {L : Lay α} {e : TypeId} {w : World} {B : Nat} {v : Value} {l : List α} (h : Own L e w B v l) {a : Addr} (ha : a.block < B) (u : Value) : Own L e (w.setCell a u) B v l :=
 ⟨ownsRow_setCell_below h.1 ha u, h.2⟩
theorem Own.put {α : Type} {L : Lay α} {e : TypeId} {w : World} {B D : Nat} {v : Value} {l : List α} (h : Own L e w B v l) (hD : D < B) (o : Obj) : Own L e (w.putObj D o) B v l := by
 obtain ⟨⟨h0, h1⟩, hf⟩ := h
 refine ⟨⟨h0, h1.imp id ?_⟩, hf⟩
 rintro ⟨g, cap, cur, rfl, hbg, hg, rest⟩
 exact ⟨g, cap, cur, rfl, hbg, (World.putObj_heap_other (by omega)).trans hg, rest⟩
def Reads {α : Type} (L : Lay α) (w : World) (v : Value) (l : List α) : Prop := ∃ a cap, v = .slice a l.length cap ∧ l.length ≤ cap ∧ cap ≤ maxLen ∧ RowAt L w a l.length l
theorem Reads.kept {α : Type} {L : Lay α} {w w' : World} {v : Value} {l : List α} (h : Reads L w v l) (k : Kept w w') : Reads L w' v l := by
 obtain ⟨a, cap, e, h1, h2, h3⟩ := h
 exact ⟨a, cap, e, h1, h2, h3.kept k⟩
theorem Own.reads {α : Type} {L : Lay α} {e : TypeId} {w : World} {base : Nat} {v : Value} {l : List α} (h : Own L e w base v l) : Reads L w v l := by
 obtain ⟨a, cap, e, h1, h2, h3⟩ := h.at_
 exact ⟨a, cap, e, h1, h2, h3⟩
abbrev perr (c : Int) : PanicEntry := { v := .iface 53 (.int .i64 c), recovered := false }
open Go.RowKit
def okByte (c : UInt8) : Bool := (decide (97 ≤ (c.toNat : Int)) && decide ((c.toNat : Int) ≤ 122)) || (decide (48 ≤ (c.toNat : Int)) && decide ((c.toNat : Int) ≤ 57))
def isName (s : ByteArray) : Bool := decide (1 ≤ s.size) && decide (s.size ≤ 12) && s.data.toList.all okByte
theorem empty_of_size {s : ByteArray} (h : s.size = 0) : s = ByteArray.empty := by
 have e : s.data.toList = [] := List.eq_nil_of_length_eq_zero (by rw [Array.length_toList, ByteArray.size_data]; exact h)
 exact Go.WideShapes.bytes_inj (by rw [e]; rfl)
theorem ret_bool {a b : Bool} (h : a = b) : Ending.returned (.bool a) = .returned (.bool b) := by rw [h]
theorem okByte_iff (c : UInt8) : okByte c = true ↔ ((97 ≤ (c.toNat : Int) ∧ (c.toNat : Int) ≤ 122) ∨ (48 ≤ (c.toNat : Int) ∧ (c.toNat : Int) ≤ 57)) := by
 unfold okByte; simp only [Bool.or_eq_true, Bool.and_eq_true, decide_eq_true_eq]
theorem all_ok {s : ByteArray} (h : s.data.toList.all okByte = true) (i : Nat) (hi : i < s.size) : okByte s[i] = true := by
 rw [List.all_eq_true] at h
 exact h _ (by simp [ByteArray.getElem_eq_getElem_data])
theorem not_all_ok {s : ByteArray} (h : ¬ s.data.toList.all okByte = true) : ∃ (j : Nat) (hj : j < s.size), okByte s[j] = false := by
 rw [List.all_eq_true] at h
 obtain ⟨x, h⟩ := Classical.not_forall.1 h
 obtain ⟨hx, hn⟩ := Classical.not_imp.1 h
 obtain ⟨j, hj, e⟩ := List.getElem_of_mem hx
 refine ⟨j, by simpa using hj, ?_⟩
 have : s[j]'(by simpa using hj) = x := by rw [← e]; simp [ByteArray.getElem_eq_getElem_data]
 rw [this]; simpa using hn
theorem digit_yes (c : UInt8) (w : World) (h1 : 48 ≤ (c.toNat : Int)) (h2 : (c.toNat : Int) ≤ 57) :
 Calls Tryz.prog 158 #[.int .u8 (c.toNat : Int)] w fun e w' => e = .returned (.bool true) ∧ w = w' := by
 go_enter Tryz.func158, Tryz.ntmps158
 go_wp2
 go_ret
 exact ⟨by simp [h1, h2], rfl⟩
theorem digit_no (c : UInt8) (w : World) (h : (c.toNat : Int) < 48 ∨ 57 < (c.toNat : Int)) :
 Calls Tryz.prog 158 #[.int .u8 (c.toNat : Int)] w fun e w' => e = .returned (.bool false) ∧ w = w' := by
 by_cases h1 : (c.toNat : Int) < 48
 · go_enter Tryz.func158, Tryz.ntmps158
   go_wp2
   go_ret
   exact ⟨rfl, rfl⟩
 · have h2 : 57 < (c.toNat : Int) := by omega
   have h3 : 48 ≤ (c.toNat : Int) := by omega
   have h4 : decide ((c.toNat : Int) ≤ 57) = false := by simpa using h2
   clear h h1
   go_enter Tryz.func158, Tryz.ntmps158
   go_wp2
   go_ret
   exact ⟨rfl, rfl⟩
set_option maxHeartbeats 800000 in
theorem refName_any (s : ByteArray) (w : World) (hs : s.size ≤ maxLen) :
 Calls Tryz.prog 77 #[.string s] w fun e w' => e = .returned (.bool (isName s)) ∧ w = w' := by
 unfold maxLen at hs
 by_cases h1 : 1 ≤ s.size
 · by_cases h2 : s.size ≤ 12
   · by_cases hall : s.data.toList.all okByte = true
     · have HV := lH (show isName s = true by simp [isName, h1, h2, hall])
       have HA := lH (all_ok hall)
       clear hall
       go_enter Tryz.func77, Tryz.ntmps77
       go_wp2
       go_loop [3] (fun i => ∃ k : Nat, k ≤ s.size ∧ i = .int .i64 k) (fun i => s.size - (intOf i).toNat)
       case atStart => exact ⟨0, Nat.zero_le _, rfl⟩
       case round =>
        obtain ⟨k, hk, rfl⟩ := hrel
        by_cases hlt : k < s.size
        · have hok := (okByte_iff _).1 (HA.out k hlt)
          by_cases c1 : (s[k].toNat : Int) < 97
          · have c2 : 48 ≤ (s[k].toNat : Int) := by omega
            have c3 : (s[k].toNat : Int) ≤ 57 := by omega
            clear hok
            go_wp2
            go_round
            case rel => exact ⟨k + 1, by omega, by go_num⟩
            case measure => simp [intOf]; omega
          · have c2 : (s[k].toNat : Int) ≤ 122 := by omega
            clear hok
            go_wp2
            go_round
            case rel => exact ⟨k + 1, by omega, by go_num⟩
            case measure => simp [intOf]; omega
        · go_wp2
          go_ret
          exact ⟨ret_bool HV.out.symm, rfl⟩
     · have HV := lH (show isName s = false by simp only [isName, Bool.and_eq_false_iff]; exact .inr (by simpa using hall))
       obtain ⟨j, hj, hbad⟩ := not_all_ok hall
       have HB := lH hbad
       clear hall hbad
       go_enter Tryz.func77, Tryz.ntmps77
       go_wp2
       go_loop [3] (fun i => ∃ k : Nat, k ≤ j ∧ i = .int .i64 k) (fun i => s.size - (intOf i).toNat)
       case atStart => exact ⟨0, Nat.zero_le _, rfl⟩
       case round =>
        obtain ⟨k, hk, rfl⟩ := hrel
        have hlt : k < s.size := by omega
        by_cases hok : okByte s[k] = true
        · have hkj : k + 1 ≤ j := by
           rcases Nat.lt_or_eq_of_le hk with g | g
           · exact g
           · subst g; rw [HB.out] at hok; cases hok
          have hok := (okByte_iff _).1 hok
          by_cases c1 : (s[k].toNat : Int) < 97
          · have c2 : 48 ≤ (s[k].toNat : Int) := by omega
            have c3 : (s[k].toNat : Int) ≤ 57 := by omega
            clear hok
            go_wp2
            go_round
            case rel => exact ⟨k + 1, by omega, by go_num⟩
            case measure => simp [intOf]; omega
          · have c2 : (s[k].toNat : Int) ≤ 122 := by omega
            clear hok
            go_wp2
            go_round
            case rel => exact ⟨k + 1, by omega, by go_num⟩
            case measure => simp [intOf]; omega
        · have hbad : ¬ ((97 ≤ (s[k].toNat : Int) ∧ (s[k].toNat : Int) ≤ 122) ∨ (48 ≤ (s[k].toNat : Int) ∧ (s[k].toNat : Int) ≤ 57)) := fun g => hok ((okByte_iff _).2 g)
          clear hok
          by_cases c1 : (s[k].toNat : Int) < 97
          · by_cases c2 : (s[k].toNat : Int) < 48
            · clear hbad
              go_wp2
              go_ret
              exact ⟨ret_bool HV.out.symm, rfl⟩
            · have c3 : 57 < (s[k].toNat : Int) := by omega
              clear hbad
              go_wp2
              go_ret
              exact ⟨ret_bool HV.out.symm, rfl⟩
          · have c2 : 122 < (s[k].toNat : Int) := by omega
            have c3 : 57 < (s[k].toNat : Int) := by omega
            have c4 : ¬ (s[k].toNat : Int) < 48 := by omega
            clear hbad
            go_wp2
            go_ret
            exact ⟨ret_bool HV.out.symm, rfl⟩
   · have HV := lH (show isName s = false by simp [isName, h2])
     have h3 : 12 < s.size := by omega
     clear h2
     go_enter Tryz.func77, Tryz.ntmps77
     go_wp2
     go_ret
     exact ⟨ret_bool HV.out.symm, rfl⟩
 · have HV := lH (show isName s = false by simp [isName, h1])
   have h3 : s.size < 1 := by omega
   clear h1
   go_enter Tryz.func77, Tryz.ntmps77
   go_wp2
   go_ret
   exact ⟨ret_bool HV.out.symm, rfl⟩
set_option maxHeartbeats 800000 in
theorem name_any (s : ByteArray) (w : World) (hs : s.size ≤ maxLen) :
 Calls Tryz.prog 125 #[.string s] w fun e w' => e = .returned (.bool (isName s)) ∧ w = w' := by
 unfold maxLen at hs
 by_cases h1 : 1 ≤ s.size
 · have hne : (s.toList == ([] : List UInt8)) = false := by
    rw [Lib.toList_data]
    cases hl : s.data.toList with
    | nil => have : s.size = 0 := by rw [← ByteArray.size_data, ← Array.length_toList, hl]; rfl
             omega
    | cons x t => rfl
   by_cases h2 : s.size ≤ 12
   · by_cases hall : s.data.toList.all okByte = true
     · have HV := lH (show isName s = true by simp [isName, h1, h2, hall])
       have HA := lH (all_ok hall)
       clear hall
       go_enter Tryz.func125, Tryz.ntmps125
       go_wp2
       go_loop [14] (fun i => ∃ k : Nat, k ≤ s.size ∧ i = .int .i64 k) (fun i => s.size - (intOf i).toNat)
       case atStart => exact ⟨0, Nat.zero_le _, rfl⟩
       case round =>
        obtain ⟨k, hk, rfl⟩ := hrel
        by_cases hlt : k < s.size
        · have hok := (okByte_iff _).1 (HA.out k hlt)
          by_cases c1 : 97 ≤ (s[k].toNat : Int)
          · have c2 : (s[k].toNat : Int) ≤ 122 := by omega
            clear hok
            go_wp2
            go_round
            case rel => exact ⟨k + 1, by omega, by go_num⟩
            case measure => simp [intOf]; omega
          · have c2 : 48 ≤ (s[k].toNat : Int) := by omega
            have c3 : (s[k].toNat : Int) ≤ 57 := by omega
            clear hok
            go_wp2_with (go_at_call 158; refine (digit_yes _ _ c2 c3).mono ?_; rintro e w' ⟨rfl, rfl⟩)
            go_round
            case rel => exact ⟨k + 1, by omega, by go_num⟩
            case measure => simp [intOf]; omega
        · go_wp2
          go_ret
          exact ⟨ret_bool HV.out.symm, rfl⟩
     · have HV := lH (show isName s = false by simp only [isName, Bool.and_eq_false_iff]; exact .inr (by simpa using hall))
       obtain ⟨j, hj, hbad⟩ := not_all_ok hall
       have HB := lH hbad
       clear hall hbad
       go_enter Tryz.func125, Tryz.ntmps125
       go_wp2
       go_loop [14] (fun i => ∃ k : Nat, k ≤ j ∧ i = .int .i64 k) (fun i => s.size - (intOf i).toNat)
       case atStart => exact ⟨0, Nat.zero_le _, rfl⟩
       case round =>
        obtain ⟨k, hk, rfl⟩ := hrel
        have hlt : k < s.size := by omega
        by_cases hok : okByte s[k] = true
        · have hkj : k + 1 ≤ j := by
           rcases Nat.lt_or_eq_of_le hk with g | g
           · exact g
           · subst g; rw [HB.out] at hok; cases hok
          have hok := (okByte_iff _).1 hok
          by_cases c1 : 97 ≤ (s[k].toNat : Int)
          · have c2 : (s[k].toNat : Int) ≤ 122 := by omega
            clear hok
            go_wp2
            go_round
            case rel => exact ⟨k + 1, by omega, by go_num⟩
            case measure => simp [intOf]; omega
          · have c2 : 48 ≤ (s[k].toNat : Int) := by omega
            have c3 : (s[k].toNat : Int) ≤ 57 := by omega
            clear hok
            go_wp2_with (go_at_call 158; refine (digit_yes _ _ c2 c3).mono ?_; rintro e w' ⟨rfl, rfl⟩)
            go_round
            case rel => exact ⟨k + 1, by omega, by go_num⟩
            case measure => simp [intOf]; omega
        · have hbad : ¬ ((97 ≤ (s[k].toNat : Int) ∧ (s[k].toNat : Int) ≤ 122) ∨ (48 ≤ (s[k].toNat : Int) ∧ (s[k].toNat : Int) ≤ 57)) := fun g => hok ((okByte_iff _).2 g)
          have c4 : (s[k].toNat : Int) < 48 ∨ 57 < (s[k].toNat : Int) := by omega
          have C4 := lH c4
          clear hok
          by_cases c1 : 97 ≤ (s[k].toNat : Int)
          · have c2 : decide ((s[k].toNat : Int) ≤ 122) = false := by
             have : 122 < (s[k].toNat : Int) := by omega
             simpa using this
            clear hbad c4
            go_wp2_with (go_at_call 158; refine (digit_no _ _ C4.out).mono ?_; rintro e w' ⟨rfl, rfl⟩)
            go_ret
            exact ⟨ret_bool HV.out.symm, rfl⟩
          · clear hbad c4
            go_wp2_with (go_at_call 158; refine (digit_no _ _ C4.out).mono ?_; rintro e w' ⟨rfl, rfl⟩)
            go_ret
            exact ⟨ret_bool HV.out.symm, rfl⟩
   · have HV := lH (show isName s = false by simp [isName, h2])
     have h3 : 12 < s.size := by omega
     clear h2
     go_enter Tryz.func125, Tryz.ntmps125
     go_wp2
     go_ret
     exact ⟨ret_bool HV.out.symm, rfl⟩
 · have HV := lH (show isName s = false by simp [isName, h1])
   have h0 : s = ByteArray.empty := by
    have : s.size = 0 := by omega
    exact empty_of_size this
   subst h0
   clear h1
   go_enter Tryz.func125, Tryz.ntmps125
   go_wp2
   go_ret
   exact ⟨ret_bool HV.out.symm, rfl⟩
end Go.Proofs.YtfpgekjhcfoohaaGreat
/- Plain arithmetic under quantities: products by halves, parts by a thousand, division of 128 bits by a thousand. Nothing of Go. -/
namespace Go.Proofs.YtfpgekjhcfoohaaGreat.Vec
open Go.RowKit
end Go.Proofs.YtfpgekjhcfoohaaGreat.Vec
/- That a world only grows: some draws, some blocks laid behind. -/
namespace Go.Proofs.YtfpgekjhcfoohaaGreat
open Go.RowKit Go.Sort
def Grw (w w' : World) : Prop := ∃ q os, w' = grow (w.drewN q) os
theorem Grw.refl (w : World) : Grw w w := ⟨0, #[], by rw [grow_empty]; rfl⟩
theorem Grw.grown {w W : World} (h : Grw w W) (n : Nat) (os : Array Obj) : Grw w (grow (W.drewN n) os) := by
 obtain ⟨q, os0, rfl⟩ := h
 exact ⟨q + n, os0 ++ os, by show grow (grow ((w.drewN q).drewN n) os0) os = _; rw [grow_grow, World.drewN_drewN]⟩
theorem Grw.trans {a b c : World} (h : Grw a b) (k : Grw b c) : Grw a c := by
 obtain ⟨q, os, rfl⟩ := k
 exact h.grown q os
theorem Grw.alloc (w : World) (o : Obj) : Grw w (w.alloc o) := ⟨0, #[o], alloc_eq_grow _ _⟩
theorem Grw.drewN (w : World) (n : Nat) : Grw w (w.drewN n) := ⟨n, #[], by rw [grow_empty]⟩
theorem kept_grow (w : World) (n : Nat) (os : Array Obj) : Kept w (grow (w.drewN n) os) := Go.Lib.below_grow w.heap.size w (Nat.le_refl _) n os
theorem Grw.kept {w w' : World} (h : Grw w w') : Kept w w' := by
 obtain ⟨q, os, rfl⟩ := h
 exact kept_grow w q os
open Go.RowKit
theorem drop_end {α : Type} {l : List α} {k : Nat} (h : ¬ k < l.length) : l.drop k = [] := List.drop_of_length_le (by omega)
theorem all_cons {α : Type} (f : α → Bool) (x : α) (t : List α) : (x :: t).all f = (f x && t.all f) := rfl
theorem take_snoc {α : Type} {l : List α} {k : Nat} {x : α} (h : l[k]? = some x) : l.take (k + 1) = l.take k ++ [x] := by rw [List.take_add_one, h]; rfl
theorem Own.snoc {α : Type} {L : Lay α} {e : TypeId} {w : World} {base n : Nat} {v : Value} {l : List α} {x : α} (h : w.ownsRow base e L.m v n (rowCells L l ++ L.cs x)) (hn : l.length + 1 = n) (hf : ∀ z ∈ l, L.fine z) (hx : L.fine x) : Own L e w base v (l ++ [x]) := by
 refine ⟨?_, fun z hz => ?_⟩
 · rw [List.length_append, rowCells_append]
   show w.ownsRow base e L.m v (l.length + 1) (rowCells L l ++ rowCells L [x])
   rw [hn]
   have e : rowCells L [x] = L.cs x := by unfold rowCells; simp
   rw [e]; exact h
 · rcases List.mem_append.1 hz with g | g
   · exact hf z g
   · have : z = x := by simpa using g
     rw [this]; exact hx
def Say (v : Value) (w : World) (e : Ending) (w' : World) : Prop := e = .returned v ∧ Kept w w'
theorem Reads.nil {α : Type} {L : Lay α} (w : World) : Reads L w (.slice none 0 0) [] := ⟨none, 0, rfl, Nat.le_refl _, by decide, RowAt.nil w none⟩
theorem Reads.fine {α : Type} {L : Lay α} {v : Value} {l : List α} {w : World} (h : Reads L w v l) : ∀ x ∈ l, L.fine x := by
 obtain ⟨a, cap, rfl, h1, h2, h3⟩ := h
 exact h3.2.2.1
theorem RowAt.part {α : Type} {L : Lay α} {w : World} {b off len : Nat} {l : List α} (h : RowAt L w (some ⟨b, off, none⟩) len l) (i n : Nat) (hi : i + n ≤ len) :
 RowAt L w (some ⟨b, off + i * L.m, none⟩) n ((l.drop i).take n) := by
 obtain ⟨h0, h1, h2, h3⟩ := h
 refine ⟨by rw [List.length_take, List.length_drop]; omega, by omega, fun x hx => h2 x (List.mem_of_mem_drop (List.mem_of_mem_take hx)), ?_⟩
 rcases h3 with h3 | ⟨b', off', e, hb, hc⟩
 · exact .inl (by omega)
 · injection e with e; injection e with e1 e2 e3; subst e1; subst e2
   refine .inr ⟨b, _, rfl, hb, fun k x j u hk hj => ?_⟩
   have hkn : k < n := by have := (List.getElem?_eq_some_iff.1 hk).1; rw [List.length_take] at this; omega
   have hk' : l[i + k]? = some x := by
    rw [List.getElem?_take, if_pos hkn, List.getElem?_drop] at hk; exact hk
   have := hc (i + k) x j u hk' hj
   rw [show off + i * L.m + k * L.m + j = off + (i + k) * L.m + j by rw [Nat.add_mul]; omega]
   exact this
open Go
open Go
section
variable {fid : FuncId} {P : Program} {Q : Exit → Act → World → Prop} {a : Act} {w : World}
end
end Go.Proofs.YtfpgekjhcfoohaaGreat
/- The library's sequence of a text's parts, ranged over: whatever the rounds do, a panic of theirs let through. -/
namespace Go.Proofs.YtfpgekjhcfoohaaGreat
open Go.RowKit Go.Shelf
def bytes (l : List UInt8) : ByteArray := ⟨l.toArray⟩
open Go.RowKit
open Go.RowKit
open Go.RowKit Go.Shelf
attribute [local go_sem] Oper.semAt_some
structure St (b2 D : Nat) (W W' : World) : Prop where
 os : W'.os = W.os
 tape : W'.tape = W.tape
 output : W'.output = W.output
 size : W.heap.size ≤ W'.heap.size
 block : ∀ b, b ≠ b2 → b ≠ D → b ≠ D + 1 → W'.heap[b]? = W.heap[b]?
theorem St.setCell {b2 D : Nat} (W : World) (v : Value) : St b2 D W (W.setCell ⟨b2, 0, none⟩ v) :=
 ⟨rfl, rfl, rfl, by show W.heap.size ≤ (W.heap.modify _ _).size; rw [Array.size_modify]; exact Nat.le_refl _, fun b h _ _ => Below.heap_setCell W ⟨b2, 0, none⟩ v b h⟩
theorem St.drewN {b2 D : Nat} (W : World) (n : Nat) : St b2 D W (W.drewN n) := ⟨rfl, rfl, rfl, Nat.le_refl _, fun _ _ _ _ => rfl⟩
theorem St.put {b2 D : Nat} (W : World) (o : Obj) : St b2 D W (W.putObj (D + 1) o) := ⟨rfl, rfl, rfl, by simp, fun b _ _ h => World.putObj_heap_other h⟩
def KeptAt (b1 b2 b3 D : Nat) (W W' : World) : Prop := ∀ b, b = b1 ∨ b = b2 ∨ b = b3 ∨ b = D ∨ b = D + 1 → W'.heap[b]? = W.heap[b]?
theorem KeptAt.trans {b1 b2 b3 D : Nat} {A B C : World} (h : KeptAt b1 b2 b3 D A B) (k : KeptAt b1 b2 b3 D B C) : KeptAt b1 b2 b3 D A C := fun b hb => (k b hb).trans (h b hb)
theorem KeptAt.drewN {b1 b2 b3 D : Nat} (W : World) (n : Nat) : KeptAt b1 b2 b3 D W (W.drewN n) := fun _ _ => rfl
end Go.Proofs.YtfpgekjhcfoohaaGreat
/- parsed, what both kinds share: the boxes of a range over the parts, the row under way. -/
namespace Go.Proofs.YtfpgekjhcfoohaaGreat
open Go.RowKit Go.Shelf
attribute [local go_sem] Oper.semAt_some
theorem Own.row {α : Type} {L : Lay α} {e : TypeId} {w : World} {B n : Nat} {v : Value} {l : List α} (h : Own L e w B v l) (hn : l.length = n) : w.ownsRow B e L.m v n (rowCells L l) := hn ▸ h.1
def RowRes {α : Type} (L : Lay α) (e : TypeId) (r : Int × List α) (base : Nat) (w : World) (en : Ending) (w' : World) : Prop :=
 (r.1 = 0 → ∃ v, en = .returned v ∧ Own L e w' base v r.2) ∧ (r.1 ≠ 0 → en = .panicked [perr r.1]) ∧ Below base w w'
theorem RowRes.good {α : Type} {L : Lay α} {e : TypeId} {r : Int × List α} {base : Nat} {w w' : World} {v : Value} (h : r.1 = 0) (ho : Own L e w' base v r.2) (hb : Below base w w') : RowRes L e r base w (.returned v) w' := ⟨fun _ => ⟨v, rfl, ho⟩, fun g => absurd h g, hb⟩
theorem RowRes.bad {α : Type} {L : Lay α} {e : TypeId} {r : Int × List α} {base : Nat} {w w' : World} {c : Int} (h : r.1 = c) (hc : c ≠ 0) (hb : Below base w w') : RowRes L e r base w (.panicked [perr c]) w' := ⟨fun g => absurd (h.symm.trans g) hc, fun _ => by rw [h], hb⟩
end Go.Proofs.YtfpgekjhcfoohaaGreat
/- The reference's Split: a text's parts, between a byte. -/
namespace Go.Proofs.YtfpgekjhcfoohaaGreat
open Go.RowKit
open Go.RowKit
open Go.RowKit
open Go.RowKit
open Go.RowKit
def Kind (t e : TypeId) (size bytes : Nat) : Prop := ∃ i z, Tryz.prog.underlying t = some (.slice e) ∧ Tryz.prog.info? e = some i ∧ i.zero = some z ∧ i.size = size ∧ i.bytes = bytes ∧ z.cells.size = size ∧ 0 < size
def AppSrc (w : World) (y : Value) (m : Nat) (news : List Value) : Prop :=
 (∃ ad c, y = .slice (some ad) m c ∧ ∀ j u, news[j]? = some u → w.cell? (ad.add j) = some u) ∨ (∃ c, y = .slice none 0 c ∧ m = 0)
theorem run_app_own {t e : TypeId} {size bytes : Nat} (K : Kind t e size bytes) (w : World) (B : Nat) (hB : B ≤ w.heap.size) (g n cap : Nat) (xs : List Value) (hown : w.ownsRow B e size (.slice (some ⟨g, 0, none⟩) n cap) n xs) (y : Value) (m : Nat) (news : List Value) (hl : news.length = m * size) (hone : ∀ u ∈ news, u.oneCell' = true) (hy : AppSrc w y m news)
 (h63 : n + m ≤ maxLen) (hb : ((n + m) + (n + m) / 4 + 192) * bytes ≤ 281474976710656) (ty : TypeId) :
 ∃ g' cap' w', (Builtin.append_ #[t, t] ty #[.slice (some ⟨g, 0, none⟩) n cap, y]).run Tryz.prog w = .ok (.slice (some ⟨g', 0, none⟩) (n + m) cap') w' ∧ w'.ownsRow B e size (.slice (some ⟨g', 0, none⟩) (n + m) cap') (n + m) (xs ++ news) ∧ Below B w w' ∧ w.grownBy w' (some g) := by
 obtain ⟨i, z, ht, hi, hz, h1, h8, hzs, hsz⟩ := K
 have hbg : B ≤ g := by
  rcases hown.2 with ⟨h0, _⟩ | ⟨g2, cap2, cur, h0, hbg, _⟩
  · cases h0
  · cases h0; exact hbg
 rcases hy with ⟨ad, c, rfl, hc⟩ | ⟨c, rfl, rfl⟩
 · obtain ⟨v', w', hr, ho, hg, hnil⟩ := run_append_own_wide w B t ty e i z size bytes ht hi hz h1 h8 hzs hsz _ n xs hown ad m c news hl hc hone h63 hb hB
   have hb := (Below.refl B w).grown hg hB (by intro k hk; cases hk; exact hbg)
   rcases ho.2 with ⟨h0, _⟩ | ⟨g2, cap2, cur, rfl, _⟩
   · have := (hnil.1 h0).1
     cases this
   · exact ⟨g2, cap2, w', hr, ho, hb, hg⟩
 · have : news = [] := List.eq_nil_of_length_eq_zero (by rw [hl, Nat.zero_mul])
   subst this
   rcases hown.2 with ⟨h0, _⟩ | ⟨g2, cap2, cur, h0, _, hg, hnc, _⟩
   · cases h0
   · cases h0
     have hr := run_append_room_src w t t ty e i ht hi g 0 n cap (.slice none 0 c) 0 [] (Src.ofNil w ht c) (by omega) (by intro j hj; simp at hj) (by intro j hj; simp at hj)
     exact ⟨_, _, _, hr, by simpa [World.setCells] using hown, Below.refl B w, World.grownBy.refl _ _⟩
theorem wp_app_own {t e : TypeId} {size bytes : Nat} (Kd : Kind t e size bytes) {o : Oper} {a : Act} {K : Act → World → Prop} {Q : Exit → Act → World → Prop} (s x : Operand) (w : World)
 (ho : o.op = .call { callee := .builtin .append, args := #[s, x], argTypes := #[t, t] })
 (B : Nat) (hB : B ≤ w.heap.size) (g n cap : Nat) (xs : List Value) (hs : a.eval s = .slice (some ⟨g, 0, none⟩) n cap) (hown : w.ownsRow B e size (.slice (some ⟨g, 0, none⟩) n cap) n xs) (y : Value) (m : Nat) (news : List Value) (hx : a.eval x = y) (hl : news.length = m * size) (hone : ∀ u ∈ news, u.oneCell' = true) (hy : AppSrc w y m news)
 (h63 : n + m ≤ maxLen) (hb : ((n + m) + (n + m) / 4 + 192) * bytes ≤ 281474976710656)
 (h : ∀ g' cap' w', w'.ownsRow B e size (.slice (some ⟨g', 0, none⟩) (n + m) cap') (n + m) (xs ++ news) → Below B w w' → w.grownBy w' (some g) → K (a.put o.dst (.slice (some ⟨g', 0, none⟩) (n + m) cap')) w') : o.wp Tryz.prog a w K Q := by
 obtain ⟨g', cap', w', hr, h2, h3, h4⟩ := run_app_own Kd w B hB g n cap xs hown y m news hl hone hy h63 hb o.type
 unfold Oper.wp execOp
 simp only [ho, resolve, invoke, builtin, Sem.run_bind, Sem.run_pure, Result.andThen_ok, List.map_toArray, List.map_cons, List.map_nil, hs, hx, hr]
 exact h g' cap' w' h2 h3 h4
theorem wpList_app_own {t e : TypeId} {size bytes : Nat} (Kd : Kind t e size bytes) {ops : Array Oper} {rest : List Oper} {o : Oper} {a : Act} {Q : Exit → Act → World → Prop} (w : World) (hgd : o.guard = none) (s x : Operand)
 (ho : o.op = .call { callee := .builtin .append, args := #[s, x], argTypes := #[t, t] })
 (B : Nat) (hB : B ≤ w.heap.size) (g n cap : Nat) (xs : List Value) (hs : a.eval s = .slice (some ⟨g, 0, none⟩) n cap) (hown : w.ownsRow B e size (.slice (some ⟨g, 0, none⟩) n cap) n xs) (y : Value) (m : Nat) (news : List Value) (hx : a.eval x = y) (hl : news.length = m * size) (hone : ∀ u ∈ news, u.oneCell' = true) (hy : AppSrc w y m news)
 (h63 : n + m ≤ maxLen) (hb : ((n + m) + (n + m) / 4 + 192) * bytes ≤ 281474976710656)
 (h : ∀ g' cap' w', w'.ownsRow B e size (.slice (some ⟨g', 0, none⟩) (n + m) cap') (n + m) (xs ++ news) → Below B w w' → w.grownBy w' (some g) → wpList Tryz.prog ops Q rest (a.put o.dst (.slice (some ⟨g', 0, none⟩) (n + m) cap')) w') : wpList Tryz.prog ops Q (o :: rest) a w :=
 wpList_plain hgd fun _ hK => wp_app_own Kd s x w ho B hB g n cap xs hs hown y m news hx hl hone hy h63 hb fun g' cap' w' h2 h3 h4 => hK _ _ (h g' cap' w' h2 h3 h4)
theorem step_app_own {t e : TypeId} {size bytes : Nat} (Kd : Kind t e size bytes) {ops : Array Oper} {o : Oper} {a : Act} {K : Act → World → Prop} {Q : Exit → Act → World → Prop} {E : Prop} (w : World) (hgd : o.guard = none) (s x : Operand)
 (ho : o.op = .call { callee := .builtin .append, args := #[s, x], argTypes := #[t, t] })
 (B : Nat) (hB : B ≤ w.heap.size) (g n cap : Nat) (xs : List Value) (hs : a.eval s = .slice (some ⟨g, 0, none⟩) n cap) (hown : w.ownsRow B e size (.slice (some ⟨g, 0, none⟩) n cap) n xs) (y : Value) (m : Nat) (news : List Value) (hx : a.eval x = y) (hl : news.length = m * size) (hone : ∀ u ∈ news, u.oneCell' = true) (hy : AppSrc w y m news)
 (h63 : n + m ≤ maxLen) (hb : ((n + m) + (n + m) / 4 + 192) * bytes ≤ 281474976710656)
 (h : ∀ g' cap' w', w'.ownsRow B e size (.slice (some ⟨g', 0, none⟩) (n + m) cap') (n + m) (xs ++ news) → Below B w w' → w.grownBy w' (some g) → K (a.put o.dst (.slice (some ⟨g', 0, none⟩) (n + m) cap')) w') :
 if Region.wanted o (yielded ops a.tmps) = true then Oper.wp Tryz.prog o a w K Q else E := by
 have hw : Region.wanted o (yielded ops a.tmps) = true := by simp [Region.wanted, hgd]
 rw [if_pos hw]
 exact wp_app_own Kd s x w ho B hB g n cap xs hs hown y m news hx hl hone hy h63 hb h
theorem own_empty (w : World) (B size : Nat) (e : TypeId) (hB : B ≤ w.heap.size) : (w.alloc (.cells #[] e)).ownsRow B e size (.slice (some ⟨w.heap.size, 0, none⟩) 0 0) 0 [] :=
 ⟨by simp, .inr ⟨w.heap.size, 0, #[], rfl, hB, World.alloc_heap_new w _, by omega, by unfold maxLen; omega, by simp, by simp⟩⟩
theorem own_alloc {w : World} {B g n cap size : Nat} {e : TypeId} {xs : List Value} (h : w.ownsRow B e size (.slice (some ⟨g, 0, none⟩) n cap) n xs) (o : Obj) : (w.alloc o).ownsRow B e size (.slice (some ⟨g, 0, none⟩) n cap) n xs := by
 refine ⟨h.1, ?_⟩
 rcases h.2 with ⟨h0, _⟩ | ⟨g2, cap2, cur, h0, hb, hg, hr⟩
 · cases h0
 · cases h0
   exact .inr ⟨g, cap, cur, rfl, hb, (Below.heap_alloc w o g (Array.getElem?_eq_some_iff.1 hg).1).trans hg, hr⟩
theorem src_new {W : World} {B : Nat} {e : TypeId} {cs : Array Value} {vals : List Value} (hv : cs = vals.toArray) (h : W.heap[B]? = some (.cells cs e (0, 0))) : AppSrc W (.slice (some ⟨B, 0, none⟩) 1 1) 1 vals := by
 subst hv
 exact .inl ⟨_, 1, rfl, by have := World.news_of_block (cs := vals.toArray) (t := e) (fr := (0, 0)) h; simpa using this⟩
theorem rowCells_from {α : Type} (L : Lay α) : ∀ (l : List α) (j : Nat) (u : Value), (rowCells L l)[j]? = some u → ∃ i x k, l[i]? = some x ∧ (L.cs x)[k]? = some u ∧ j = i * L.m + k
 | [], j, u, h => by simp [rowCells] at h
 | y :: t, j, u, h => by
  unfold rowCells at h
  rw [List.flatMap_cons] at h
  by_cases hj : j < L.m
  · rw [List.getElem?_append_left (by rw [L.len]; exact hj)] at h
    exact ⟨0, y, j, rfl, h, by omega⟩
  · rw [List.getElem?_append_right (by rw [L.len]; omega), L.len] at h
    obtain ⟨i, x, k, h1, h2, h3⟩ := rowCells_from L t (j - L.m) u h
    exact ⟨i + 1, x, k, by simpa using h1, h2, by rw [Nat.add_mul]; omega⟩
theorem RowAt.src {α : Type} {L : Lay α} {w : World} {a : Option Addr} {len cap : Nat} {l : List α} (h : RowAt L w a len l) : AppSrc w (.slice a len cap) len (rowCells L l) := by
 obtain ⟨h0, h1, h2, h3⟩ := h
 rcases h3 with h3 | ⟨b, off, rfl, hb, hc⟩
 · have hl : l = [] := List.eq_nil_of_length_eq_zero (by omega)
   subst hl
   subst h3
   cases a with
   | none => exact .inr ⟨cap, rfl, rfl⟩
   | some ad => exact .inl ⟨ad, cap, rfl, fun j u hu => by simp [rowCells] at hu⟩
 · refine .inl ⟨_, cap, rfl, fun j u hu => ?_⟩
   obtain ⟨i, x, k, hi, hk, rfl⟩ := rowCells_from L l j u hu
   have e : (⟨b, off, none⟩ : Addr).add (i * L.m + k) = ⟨b, off + i * L.m + k, none⟩ := by
    unfold Addr.add
    split <;> simp_all [Nat.add_assoc]
   rw [e]; exact hc i x k u hi hk
open Go.RowKit
theorem soundV_ok (v : Value) (w : World) : Calls Tryz.prog 92 #[v, .int .i64 0] w fun e w' => e = .returned v ∧ w = w' := by
 go_enter Tryz.func92, Tryz.ntmps92
 go_wp2
 go_ret
 exact ⟨rfl, rfl⟩
theorem soundV_bad (v : Value) (x : Int) (w : World) (h : x ≠ 0) : Calls Tryz.prog 92 #[v, .int .i64 x] w fun e w' => e = .panicked [perr x] ∧ w = w' := by
 have h3 : (x != 0) = true := by simpa using h
 clear h
 go_enter Tryz.func92, Tryz.ntmps92
 go_wp2
 exact ⟨rfl, rfl, rfl⟩
open Go.ChangeShapes Go.WideShapes Go.ChangeAt Go.RowKit Go.Deep
theorem cellsS : Tryz.prog.cellsOf 9 = 1 := by kernel_rfl
theorem reads_of_trod {α : Type} (L : Lay α) {t e : TypeId} (ht : Tryz.prog.underlying t = some (.slice e)) (hc : Tryz.prog.cellsOf e = L.m) {H : Type} {enc : TypeId × Value → H} {w : World} {base fuel : Nat} {sp : Nat → Bool} {held : Bool} {v : Value} {x : DataW H × List MemPlace}
 (el : ∀ (m : Nat) (cs : List Value) (x : DataW H × List MemPlace), DataW.trod enc Tryz.prog w base sp held m e cs = some x → ∃ a, cs = L.cs a ∧ L.fine a)
 (h : DataW.trod enc Tryz.prog w base sp held fuel t [v] = some x) : ∃ l, Reads L w v l := by
 rcases open_slice ht h with ⟨hcs, -⟩ | ⟨a, len, cap, m, n, D, Pl, hcs, hb, hl, hm, hmm, hx, hi⟩
 · cases hcs; exact ⟨[], Reads.nil w⟩
 · cases hcs
   have hlm : len ≤ m := by rw [hmm]; split <;> omega
   have key : ∀ k, k ≤ len → ∃ l : List α, l.length = k ∧ (∀ z ∈ l, L.fine z) ∧ ∀ i z j u, l[i]? = some z → (L.cs z)[j]? = some u → w.cell? ((a.add (i * L.m)).add j) = some u := by
    intro k
    induction k with
    | zero => exact fun _ => ⟨[], rfl, (fun z hz => by cases hz), (fun i z j u hi _ => by simp at hi)⟩
    | succ k ih =>
     intro hk
     obtain ⟨l, e, hfine, hall⟩ := ih (by omega)
     obtain ⟨cs', hcc, ht'⟩ := hi k (by omega)
     obtain ⟨z0, rfl, hz0⟩ := el _ _ _ ht'
     rw [hc] at hcc
     obtain ⟨-, -, hat⟩ := World.cells?_some hcc
     refine ⟨l ++ [z0], by simp [e], fun z hz => ?_, fun i z j u hi' hj => ?_⟩
     · rcases List.mem_append.1 hz with g | g
       · exact hfine z g
       · have : z = z0 := by simpa using g
         rw [this]; exact hz0
     · by_cases e2 : i = k
       · subst e2
         have : z0 = z := by simpa [e] using hi'
         subst this
         have hjl : j < L.m := by have := (List.getElem?_eq_some_iff.1 hj).1; rw [L.len] at this; exact this
         rw [hat j hjl]; exact hj
       · have hik : i < l.length := by have := (List.getElem?_eq_some_iff.1 hi').1; simp at this; omega
         rw [List.getElem?_append_left hik] at hi'
         exact hall i z j u hi' hj
   obtain ⟨l, e, hfine, hall⟩ := key len (Nat.le_refl _)
   subst e
   refine ⟨l, _, cap, rfl, hl, hm, rfl, Nat.le_trans hl hm, hfine, ?_⟩
   by_cases h0 : l.length = 0
   · exact .inl h0
   · obtain ⟨b, off, spot⟩ := a
     have hg : l[0]? = some (l[0]'(by omega)) := List.getElem?_eq_getElem (by omega)
     have hlz := L.len (l[0]'(by omega))
     have hcz : (L.cs (l[0]'(by omega)))[0]? = some ((L.cs (l[0]'(by omega)))[0]'(by rw [hlz]; exact L.pos)) := List.getElem?_eq_getElem (by rw [hlz]; exact L.pos)
     have hcell0 := hall 0 _ 0 _ hg hcz
     have hspot : spot = none := by simpa [Addr.add] using World.cell?_spot hcell0
     subst hspot
     have hcell : ∀ i z j u, l[i]? = some z → (L.cs z)[j]? = some u → w.cell? ⟨b, off + i * L.m + j, none⟩ = some u := fun i z j u hi' hj => by
      have c := hall i z j u hi' hj
      have e : ((⟨b, off, none⟩ : Addr).add (i * L.m)).add j = ⟨b, off + i * L.m + j, none⟩ := by
       unfold Addr.add
       split <;> split <;> simp_all
      rw [e] at c; exact c
     exact .inr ⟨b, off, rfl, World.block_lt_of_cell? _ _ (hcell 0 _ 0 _ hg hcz), hcell⟩
open Go.RowKit
open Go.RowKit
open Go.RowKit
structure CellsN (q : Nat) (vs : List Value) (W : World) : Prop where
 at_ : ∀ i v, vs[i]? = some v → W.cell? ⟨q, i, none⟩ = some v
 free : ∀ i, W.frozen? ⟨q, i, none⟩ = false
theorem CellsN.block {q : Nat} {vs : List Value} {W W' : World} (h : CellsN q vs W) (e : W'.heap[q]? = W.heap[q]?) : CellsN q vs W' :=
 ⟨fun i v hv => (World.cell?_of_block (a := ⟨q, i, none⟩) e).trans (h.at_ i v hv), fun i => (World.frozen?_of_block (a := ⟨q, i, none⟩) e).trans (h.free i)⟩
theorem CellsN.lt {q : Nat} {v : Value} {vs : List Value} {W : World} (h : CellsN q (v :: vs) W) : q < W.heap.size := World.block_lt_of_cell? _ _ (h.at_ 0 v rfl)
theorem CellsN.kept {q : Nat} {v : Value} {vs : List Value} {W W' : World} (h : CellsN q (v :: vs) W) (k : Kept W W') : CellsN q (v :: vs) W' := h.block (k.block q h.lt)
theorem CellsN.other {q p j : Nat} {u : Value} {vs : List Value} {W : World} (h : CellsN q vs W) (hp : q ≠ p) : CellsN q vs (W.setCell ⟨p, j, none⟩ u) := h.block (Below.heap_setCell W ⟨p, j, none⟩ u q hp)
theorem freshN (w : World) (v : Value) (vs : List Value) (T : TypeId) (W : World) (k : Kept (w.alloc (.cells (v :: vs).toArray T)) W) : CellsN w.heap.size (v :: vs) W := by
 have hh := w.alloc_heap_new (.cells (v :: vs).toArray T)
 have h : CellsN w.heap.size (v :: vs) (w.alloc (.cells (v :: vs).toArray T)) := ⟨fun i u hu => by rw [Lib.cell_of_heap hh]; simpa using hu, fun i => by
  unfold World.frozen?
  rw [show (w.alloc (.cells (v :: vs).toArray T)).heap[(⟨w.heap.size, i, none⟩ : Addr).block]? = some (.cells (v :: vs).toArray T) from hh]
  simp⟩
 exact h.kept k
theorem CellsN.set {q j : Nat} {u : Value} {vs : List Value} {W : World} (h : CellsN q vs W) (hj : j < vs.length) : CellsN q (vs.set j u) (W.setCell ⟨q, j, none⟩ u) := by
 refine ⟨fun i v hv => ?_, fun i => by rw [World.frozen?_setCell]; exact h.free i⟩
 by_cases e : j = i
 · subst e
   have hv' : v = u := by rw [List.getElem?_set_self hj] at hv; exact (Option.some.inj hv).symm
   subst hv'
   exact World.cell?_setCell_same _ _ _ (h.at_ j _ (List.getElem?_eq_getElem hj))
 · rw [List.getElem?_set_ne e] at hv
   rw [World.cell?_setCell_other _ _ _ _ (by simp)]
   exact h.at_ i v hv
theorem setCells_size (q : Nat) : ∀ (vs : List Value) (o : Nat) (W : World), (W.setCells q o vs).heap.size = W.heap.size
 | [], _, _ => rfl
 | v :: r, o, W => by rw [World.setCells, setCells_size q r]; simp [World.setCell]
theorem setCells_block (q : Nat) : ∀ (vs : List Value) (o : Nat) (W : World) (b : Nat), b ≠ q → (W.setCells q o vs).heap[b]? = W.heap[b]?
 | [], _, _, _, _ => rfl
 | v :: r, o, W, b, h => by rw [World.setCells, setCells_block q r _ _ b h]; exact Below.heap_setCell W ⟨q, o, none⟩ v b h
theorem setCells_below (q : Nat) : ∀ (vs : List Value) (o : Nat) (W : World) (B : Nat) (w : World), B ≤ q → Below B w W → Below B w (W.setCells q o vs)
 | [], _, _, _, _, _, k => k
 | v :: r, o, W, B, w, h, k => by rw [World.setCells]; exact setCells_below q r _ _ B w h (k.setCell (p := ⟨q, o, none⟩) h _)
structure PutN (q : Nat) (vs : List Value) (W W' : World) : Prop where
 cells : CellsN q vs W'
 size : W'.heap.size = W.heap.size
 far : ∀ b, b ≠ q → W'.heap[b]? = W.heap[b]?
 below : ∀ B w, B ≤ q → Below B w W → Below B w W'
theorem putN {q : Nat} {us vs : List Value} {W : World} (h : CellsN q us W) (hl : us.length = vs.length) : PutN q vs W (W.setCells q 0 vs) := by
 refine ⟨⟨fun i v hv => ?_, fun i => by rw [World.frozen?_setCells]; exact h.free i⟩, setCells_size q vs 0 W, fun b hb => setCells_block q vs 0 W b hb, fun B w hB k => setCells_below q vs 0 W B w hB k⟩
 have hi : i < vs.length := (List.getElem?_eq_some_iff.1 hv).1
 have := World.cell?_setCells_in q vs 0 W (fun j hj => by rw [Nat.zero_add, h.at_ j _ (List.getElem?_eq_getElem (by omega))]; rfl) i hi
 rw [Nat.zero_add] at this
 rw [this]
 obtain ⟨_, e⟩ := List.getElem?_eq_some_iff.1 hv
 rw [e]
end Go.Proofs.YtfpgekjhcfoohaaGreat
