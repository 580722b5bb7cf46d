/- parsed, what both kinds share: the boxes of a range over the parts, the row under way. -/
import Derived.Test.YtnnneimpdiadhaaDoorLabRange
namespace Go.Proofs.YtnnneimpdiadhaaDoor
open Go.RowKit Go.Shelf
set_option linter.unusedVariables false
attribute [local go_sem] Oper.semAt_some

/-- The world behind SplitSeq: three boxes more. -/
def boxes (w : World) (s : List UInt8) : World := ((w.alloc (.cells #[.string (bytes s)] 9)).alloc (.cells #[.string ⟨#[44]⟩] 9)).alloc (.cells #[.int .i64 0] 3)

theorem splitseq_any (s : List UInt8) (w : World) :
    Calls Tryd.prog 50 #[.string (bytes s), .string ⟨#[44]⟩] w fun e w' =>
      e = .returned (.func (.func 68) #[] #[.pointer (some ⟨w.heap.size + 1, 0, none⟩), .pointer (some ⟨w.heap.size, 0, none⟩), .pointer (some ⟨w.heap.size + 2, 0, none⟩)]) ∧ w' = boxes w s := by
  have hmf : ∀ (fn : Fn) (first cap : Array Value) (w : World), (Instr.makeFunc fn first cap).run Tryd.prog w = .ok (.func fn first cap) w := fun _ _ _ _ => rfl
  go_enter Tryd.func50, Tryd.ntmps50
  go_wp2
  go_ret
  exact ⟨rfl, rfl⟩

theorem boxes_size (w : World) (s : List UInt8) : (boxes w s).heap.size = w.heap.size + 3 := by simp [boxes]
theorem boxes_kept (w : World) (s : List UInt8) : Kept w (boxes w s) := ((kept_alloc w _).trans (kept_alloc _ _)).trans (kept_alloc _ _)
theorem boxes_cells (w : World) (s : List UInt8) : (boxes w s).cell? ⟨w.heap.size + 1, 0, none⟩ = some (.string ⟨#[44]⟩) ∧ (boxes w s).cell? ⟨w.heap.size, 0, none⟩ = some (.string (bytes s)) ∧ (boxes w s).cell? ⟨w.heap.size + 2, 0, none⟩ = some (.int .i64 0) ∧ (boxes w s).frozen? ⟨w.heap.size, 0, none⟩ = false := by
  unfold boxes
  refine ⟨?_, ?_, ?_, ?_⟩ <;> go_simp

theorem Below.st {B b2 D : Nat} {w W W' : World} (h : Below B w W) (k : St b2 D W W') (h2 : B ≤ b2) (hD : B ≤ D) : Below B w W' :=
  ⟨k.os.trans h.os, k.tape.trans h.tape, k.output.trans h.output, Nat.le_trans h.size k.size, fun b hb => (k.block b (by omega) (by omega) (by omega)).trans (h.block b hb)⟩
theorem below_put {B D : Nat} {w W : World} {o : Obj} (h : Below B w W) (hD : B ≤ D) : Below B w (W.putObj D o) :=
  ⟨h.os, h.tape, h.output, by rw [World.putObj_size]; exact h.size, fun b hb => (World.putObj_heap_other (by omega)).trans (h.block b hb)⟩
theorem Own.st {α : Type} {L : Lay α} {e : TypeId} {b2 D : Nat} {W W' : World} {v : Value} {l : List α} (h : Own L e W (D + 2) v l) (k : St b2 D W W') (h2 : b2 < D) : Own L e W' (D + 2) v l := by
  obtain ⟨⟨h0, h1⟩, hf⟩ := h
  refine ⟨⟨h0, h1.imp id ?_⟩, hf⟩
  rintro ⟨g, cap, cur, rfl, hbg, hg, hn, hm, hs, ht⟩
  exact ⟨g, cap, cur, rfl, hbg, (k.block g (by omega) (by omega) (by omega)).trans hg, hn, hm, hs, ht⟩
theorem Own.row {α : Type} {L : Lay α} {e : TypeId} {w : World} {B n : Nat} {v : Value} {l : List α} (h : Own L e w B v l) (hn : l.length = n) : w.ownsRow B e L.m v n (rowCells L l) := hn ▸ h.1

theorem box_new (W : World) (v : Value) (T : TypeId) : (W.alloc (.cells #[v] T)).cell? ⟨W.heap.size, 0, none⟩ = some v ∧ (W.alloc (.cells #[v] T)).frozen? ⟨W.heap.size, 0, none⟩ = false := by
  constructor <;> go_simp

theorem two_cells (w : World) (f v : Value) (T T' : TypeId) : ((w.alloc (.cells #[f] T)).alloc (.cells #[v] T')).cell? ⟨w.heap.size + 1, 0, none⟩ = some v ∧ ((w.alloc (.cells #[f] T)).alloc (.cells #[v] T')).frozen? ⟨w.heap.size + 1, 0, none⟩ = false ∧ ((w.alloc (.cells #[f] T)).alloc (.cells #[v] T')).cell? ⟨w.heap.size, 0, none⟩ = some f := by
  have h := box_new (w.alloc (.cells #[f] T)) v T'
  rw [World.size_alloc] at h
  exact ⟨h.1, h.2, cell_later (kept_alloc _ _) (box_new w f T).1⟩

/-- The box of the row under way. -/
def VBox {α : Type} (L : Lay α) (e : TypeId) (B vb : Nat) (l : List α) (W : World) : Prop := ∃ v, W.cell? ⟨vb, 0, none⟩ = some v ∧ W.frozen? ⟨vb, 0, none⟩ = false ∧ Own L e W B v l
theorem VBox.st {α : Type} {L : Lay α} {e : TypeId} {b2 D vb : Nat} {W W' : World} {l : List α} {B : Nat} (h : VBox L e B vb l W) (k : St b2 D W W') (hB : B = D + 2) (hvb : vb < b2) (h2 : b2 < D) : VBox L e B vb l W' := by
  subst hB
  obtain ⟨v, h1, h3, h4⟩ := h
  have hb := k.block vb (by omega) (by omega) (by omega)
  exact ⟨v, (World.cell?_of_block (a := ⟨vb, 0, none⟩) hb).trans h1, (World.frozen?_of_block (a := ⟨vb, 0, none⟩) hb).trans h3, h4.st k h2⟩
theorem st_cell {b2 D fb : Nat} {W W' : World} {v : Value} (h : W.cell? ⟨fb, 0, none⟩ = some v) (k : St b2 D W W') (hvb : fb < b2) (h2 : b2 < D) : W'.cell? ⟨fb, 0, none⟩ = some v :=
  (World.cell?_of_block (a := ⟨fb, 0, none⟩) (k.block fb (by omega) (by omega) (by omega))).trans h

theorem news2 (w : World) (o : Obj) (a b : Value) (T : TypeId) : ∀ j u, [a, b][j]? = some u → ((w.alloc o).alloc (.cells #[a, b] T)).cell? ((⟨w.heap.size + 1, 0, none⟩ : Addr).add j) = some u := by
  have := World.news_of_block (cs := #[a, b]) (t := T) (fr := (0, 0)) ((w.alloc o).alloc_heap_new _)
  rw [World.size_alloc] at this
  exact this
theorem news3 (w : World) (o : Obj) (a b c : Value) (T : TypeId) : ∀ j u, [a, b, c][j]? = some u → ((w.alloc o).alloc (.cells #[a, b, c] T)).cell? ((⟨w.heap.size + 1, 0, none⟩ : Addr).add j) = some u := by
  have := World.news_of_block (cs := #[a, b, c]) (t := T) (fr := (0, 0)) ((w.alloc o).alloc_heap_new _)
  rw [World.size_alloc] at this
  exact this

/-- The first parts made, nine at most. -/
def accG {α : Type} (f : List UInt8 → α) (ps : List (List UInt8)) (k : Nat) : List α := ((ps.take k).map f).take 9
theorem accG_len {α : Type} {f : List UInt8 → α} {ps : List (List UInt8)} {k : Nat} (h : k ≤ ps.length) : (accG f ps k).length = min 9 k := by
  unfold accG; rw [List.length_take, List.length_map, List.length_take]; omega
theorem accG_next {α : Type} {f : List UInt8 → α} {ps : List (List UInt8)} {k : Nat} {p : List UInt8} (hp : ps[k]? = some p) (h : (accG f ps k).length ≤ 8) : accG f ps (k + 1) = accG f ps k ++ [f p] := by
  have hk : k < ps.length := (List.getElem?_eq_some_iff.1 hp).1
  rw [accG_len (by omega)] at h
  unfold accG
  have e : ps.take (k + 1) = ps.take k ++ [p] := by rw [List.take_add_one, hp]; rfl
  rw [e, List.map_append, List.take_of_length_le (l := (ps.take k).map f) (by simp; omega), List.take_of_length_le (by simp; omega)]
  rfl
theorem accG_full {α : Type} {f : List UInt8 → α} {ps : List (List UInt8)} {k : Nat} {p : List UInt8} (hp : ps[k]? = some p) (h : ¬ (accG f ps k).length ≤ 8) : accG f ps (k + 1) = accG f ps k := by
  have hk : k < ps.length := (List.getElem?_eq_some_iff.1 hp).1
  rw [accG_len (by omega)] at h
  unfold accG
  have e : ps.take (k + 1) = ps.take k ++ [p] := by rw [List.take_add_one, hp]; rfl
  rw [e, List.map_append, List.take_append_of_le_length (by simp; omega)]

theorem part_len : ∀ (s : List UInt8) (p : List UInt8), p ∈ partsOf s → p.length ≤ s.length
  | [], p, h => by
    have : p = [] := by simpa [partsOf] using h
    subst this; simp
  | c :: t, p, h => by
    rw [partsOf_cons] at h
    split at h
    · rcases List.mem_cons.1 h with rfl | h
      · simp
      · have := part_len t p h; simp; omega
    · cases hp : partsOf t with
      | nil => exact absurd hp (partsOf_ne t)
      | cons q qs =>
        rw [hp] at h
        rcases List.mem_cons.1 h with rfl | h
        · have := part_len t q (by rw [hp]; simp); simp; omega
        · have := part_len t p (by rw [hp]; simp [h]); simp; omega

theorem next_good {bad : List UInt8 → Bool} {ps : List (List UInt8)} {k : Nat} {p : List UInt8} (h : ∀ q ∈ ps.take k, bad q = false) (hp : ps[k]? = some p) (hv : bad p = false) :
    ∀ q ∈ ps.take (k + 1), bad q = false := by
  intro q hq
  rw [List.take_add_one, hp] at hq
  rcases List.mem_append.1 hq with g | g
  · exact h q g
  · have : q = p := by simpa using g
    rw [this]; exact hv

/-- What a call answers that makes a row, or panics. -/
def RowRes {α : Type} (L : Lay α) (e : TypeId) (r : Int × List α) (base : Nat) (w : World) (en : Ending) (w' : World) : Prop :=
  (r.1 = 0 → ∃ v, en = .returned v ∧ Own L e w' base v r.2) ∧ (r.1 ≠ 0 → en = .panicked [perr r.1]) ∧ Below base w w'
theorem RowRes.good {α : Type} {L : Lay α} {e : TypeId} {r : Int × List α} {base : Nat} {w w' : World} {v : Value} (h : r.1 = 0) (ho : Own L e w' base v r.2) (hb : Below base w w') : RowRes L e r base w (.returned v) w' := ⟨fun _ => ⟨v, rfl, ho⟩, fun g => absurd h g, hb⟩
theorem RowRes.bad {α : Type} {L : Lay α} {e : TypeId} {r : Int × List α} {base : Nat} {w w' : World} {c : Int} (h : r.1 = c) (hc : c ≠ 0) (hb : Below base w w') : RowRes L e r base w (.panicked [perr c]) w' := ⟨fun g => absurd (h.symm.trans g) hc, fun _ => by rw [h], hb⟩

/-- What comes of all parts. -/
def parsedG {α : Type} (bad : List UInt8 → Bool) (f : List UInt8 → α) (chk : List α → Int) (s : List UInt8) : Int × List α :=
  if s = [45] then (0, [])
  else if (partsOf s).any bad = true then (2, [])
  else if chk (((partsOf s).map f).take 9) ≠ 0 then (chk (((partsOf s).map f).take 9), [])
  else (0, ((partsOf s).map f).take 9)
theorem parsedG_none {α : Type} {bad : List UInt8 → Bool} {f : List UInt8 → α} {chk : List α → Int} {s : List UInt8} (h : (parsedG bad f chk s).1 ≠ 0) : (parsedG bad f chk s).2 = [] := by
  unfold parsedG at h ⊢
  split
  · rfl
  · rename_i h1
    rw [if_neg h1] at h
    split
    · rfl
    · rename_i h2
      rw [if_neg h2] at h
      split
      · rfl
      · rename_i h3; rw [if_neg h3] at h; exact absurd rfl h

end Go.Proofs.YtnnneimpdiadhaaDoor
