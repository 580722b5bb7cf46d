/- As many nodes as may be, in order, and one more; two exchanged: the law, walked. -/
import Derived.Test.YtppbbgppooblfaaGreatDoorLimBase
import Derived.Test.YtppbbgppooblfaaGreatDoorBase
import Derived.Deep.AppendLies
namespace Go.Proofs.YtppbbgppooblfaaGreatDoor.Nk
open Go.RowKit
set_option linter.unusedVariables false

theorem infoN : (Tryz.prog.info? 53).map (fun i => (i.zero, i.size, i.bytes)) = some (some (.agg #[.string ByteArray.empty, .slice none 0 0, .slice none 0 0, .slice none 0 0, .bool false]), 5, 96) := by kernel_rfl

theorem third_new (w : World) (a b c : Obj) : (((w.alloc a).alloc b).alloc c).heap[w.heap.size + 1 + 1]? = some c := by
  have h := ((w.alloc a).alloc b).alloc_heap_new c
  rw [World.size_alloc, World.size_alloc] at h
  exact h
theorem kept_three (w : World) (a b c : Obj) : Kept w (((w.alloc a).alloc b).alloc c) := ((kept_alloc w a).trans (kept_alloc _ b)).trans (kept_alloc _ c)
theorem second_cells (w : World) (a c : Obj) (vs : Array Value) (T : TypeId) (i : Nat) (v : Value) (hv : vs[i]? = some v) : (((w.alloc a).alloc (.cells vs T)).alloc c).cell? ⟨w.heap.size + 1, i, none⟩ = some v := by
  have h := (w.alloc a).alloc_heap_new (.cells vs T)
  rw [World.size_alloc] at h
  refine cell_later (kept_alloc _ c) ?_
  rw [Lib.cell_of_heap h]
  simpa using hv
theorem lim_grow {wr w2 : World} {a c : Obj} {T E : TypeId} {v : Value} {l : List (Nat × Nat)} {xs : List Value} {gg n cap B sz len : Nat} (j : Nat) (hv : LimVec wr v l) (hown : wr.ownsRow B E sz v len xs)
    (hgrow : (((wr.alloc a).alloc (.cells #[.string bCpu, .int .i64 1] T)).alloc c).grownBy w2 v.ownBlock) (hat : v.ownBlock = some gg ∨ gg = wr.heap.size + 3) : LimVec w2 (.slice (some ⟨gg, 0, none⟩) n cap) (l ++ [(j, wr.heap.size + 1)]) := by
  have hs := hgrow.size
  simp only [World.size_alloc] at hs
  intro x hx
  rcases List.mem_append.1 hx with hx | hx
  · obtain ⟨h0, h1, h2, h3⟩ := hv x hx
    refine ⟨(hgrow.cell_far ⟨x.2, 0, none⟩ (by simp; omega) (Ne.symm h3)).trans (cell_later (kept_three _ _ _ _) h0), (hgrow.cell_far ⟨x.2, 1, none⟩ (by simp; omega) (Ne.symm h3)).trans (cell_later (kept_three _ _ _ _) h1), by omega, ?_⟩
    intro e
    rcases hat with hat | hat
    · exact h3 (hat.trans e)
    · have : gg = x.2 := by simpa [Value.ownBlock] using e
      omega
  · obtain rfl : x = (j, wr.heap.size + 1) := by simpa using hx
    have hne : some (wr.heap.size + 1) ≠ v.ownBlock := fun e => by have := (hown.lt _ e.symm).2; omega
    refine ⟨(hgrow.cell_far ⟨wr.heap.size + 1, 0, none⟩ (by simp) hne).trans (second_cells wr a c _ T 0 _ rfl), (hgrow.cell_far ⟨wr.heap.size + 1, 1, none⟩ (by simp) hne).trans (second_cells wr a c _ T 1 _ rfl), by dsimp only; omega, ?_⟩
    intro e
    have e2 : gg = wr.heap.size + 1 := by simpa [Value.ownBlock] using e
    rcases hat with hat | hat
    · exact hne (by rw [hat, e2])
    · omega
def At5 (w : World) (g p : Nat) (x : Nat × Nat) : Prop := w.cell? ⟨g, p, none⟩ = some (.string (bytes (nmL x.1))) ∧ w.cell? ⟨g, p + 1, none⟩ = some (.slice (some ⟨x.2, 0, none⟩) 1 1) ∧ w.cell? ⟨g, p + 2, none⟩ = some (.slice none 0 0) ∧ w.cell? ⟨g, p + 3, none⟩ = some (.slice none 0 0) ∧ w.cell? ⟨g, p + 4, none⟩ = some (.bool false)
theorem lim_at {w : World} {g j i : Nat} {l : List (Nat × Nat)} (h : RowAt LimLay w (some ⟨g, 0, none⟩) j l) (hi : i < j) : ∃ x, l[i]? = some x ∧ At5 w g (i * 5) x := by
  obtain ⟨x, h1, _, _, _, c⟩ := h.cells hi
  have c0 := c 0 _ rfl
  have c1 := c 1 _ rfl
  have c2 := c 2 _ rfl
  have c3 := c 3 _ rfl
  have c4 := c 4 _ rfl
  rw [Nat.zero_add] at c0 c1 c2 c3 c4
  exact ⟨x, h1, c0, c1, c2, c3, c4⟩
def sto5 (w : World) (g p : Nat) (y : Nat × Nat) : World := (((((w.setCell ⟨g, p, none⟩ (.string (bytes (nmL y.1)))).setCell ⟨g, p + 1, none⟩ (.slice (some ⟨y.2, 0, none⟩) 1 1)).setCell ⟨g, p + 2, none⟩ (.slice none 0 0)).setCell ⟨g, p + 3, none⟩ (.slice none 0 0)).setCell ⟨g, p + 4, none⟩ (.bool false))
structure Sto5 (w W : World) (g p : Nat) (y : Nat × Nat) : Prop where
  at5 : At5 W g p y
  size : W.heap.size = w.heap.size
  block : ∀ b, b ≠ g → W.heap[b]? = w.heap[b]?
  cell : ∀ o, o < p ∨ p + 5 ≤ o → W.cell? ⟨g, o, none⟩ = w.cell? ⟨g, o, none⟩
  frozen : ∀ o, W.frozen? ⟨g, o, none⟩ = w.frozen? ⟨g, o, none⟩
  below : ∀ B w0, B ≤ g → Below B w0 w → Below B w0 W
theorem set_one {w : World} {g p : Nat} {u v : Value} (h : w.cell? ⟨g, p, none⟩ = some u) : (w.setCell ⟨g, p, none⟩ v).cell? ⟨g, p, none⟩ = some v := World.cell?_setCell_same' w ⟨g, p, none⟩ v (by rw [h]; rfl)
theorem set_far {w : World} {g p o : Nat} {v : Value} (h : o ≠ p) : (w.setCell ⟨g, p, none⟩ v).cell? ⟨g, o, none⟩ = w.cell? ⟨g, o, none⟩ := by
  refine World.cell?_setCell_other w _ _ v ?_
  simp
theorem store5 {w : World} {g p : Nat} {x y : Nat × Nat} (h : At5 w g p x) : Sto5 w (sto5 w g p y) g p y := by
  obtain ⟨h0, h1, h2, h3, h4⟩ := h
  unfold sto5
  refine ⟨⟨?_, ?_, ?_, ?_, ?_⟩, ?_, ?_, ?_, ?_, ?_⟩
  · rw [set_far (by omega), set_far (by omega), set_far (by omega), set_far (by omega)]; exact set_one h0
  · rw [set_far (by omega), set_far (by omega), set_far (by omega)]; exact set_one (by rw [set_far (by omega)]; exact h1)
  · rw [set_far (by omega), set_far (by omega)]; exact set_one (by rw [set_far (by omega), set_far (by omega)]; exact h2)
  · rw [set_far (by omega)]; exact set_one (by rw [set_far (by omega), set_far (by omega), set_far (by omega)]; exact h3)
  · exact set_one (by rw [set_far (by omega), set_far (by omega), set_far (by omega), set_far (by omega)]; exact h4)
  · simp [World.setCell]
  · intro b hb
    rw [Below.heap_setCell _ _ _ b hb, Below.heap_setCell _ _ _ b hb, Below.heap_setCell _ _ _ b hb, Below.heap_setCell _ _ _ b hb, Below.heap_setCell _ _ _ b hb]
  · intro o ho
    rw [set_far (by omega), set_far (by omega), set_far (by omega), set_far (by omega), set_far (by omega)]
  · intro o
    simp [go_sem]
  · intro B w0 hB k
    exact ((((k.setCell (p := ⟨g, p, none⟩) hB _).setCell (p := ⟨g, p + 1, none⟩) hB _).setCell (p := ⟨g, p + 2, none⟩) hB _).setCell (p := ⟨g, p + 3, none⟩) hB _).setCell (p := ⟨g, p + 4, none⟩) hB _
theorem Sto5.far5 {w W : World} {g p q : Nat} {x y : Nat × Nat} (s : Sto5 w W g p y) (h : At5 w g q x) (hpq : q + 5 ≤ p ∨ p + 5 ≤ q) : At5 W g q x :=
  ⟨(s.cell q (by omega)).trans h.1, (s.cell (q + 1) (by omega)).trans h.2.1, (s.cell (q + 2) (by omega)).trans h.2.2.1, (s.cell (q + 3) (by omega)).trans h.2.2.2.1, (s.cell (q + 4) (by omega)).trans h.2.2.2.2⟩
/-- Two bytes as a text. -/
theorem conv_two (W : World) (c d : Nat) (hc : c < 256) (hd : d < 256) : Sem.run Tryz.prog (convert 80 9 (.slice (some ⟨W.heap.size, 0, none⟩) 2 2)) (W.alloc (.cells #[.int .u8 c, .int .u8 d] 5)) = .ok (.string (bytes [UInt8.ofNat c, UInt8.ofNat d])) (W.alloc (.cells #[.int .u8 c, .int .u8 d] 5)) := by
  have h := run_convert_bytes_arg (P := Tryz.prog) (W.alloc (.cells #[.int .u8 c, .int .u8 d] 5)) 80 5 Tryz.underlying80 Tryz.underlying5 W.heap.size 0 2 2 [(c : Int), (d : Int)] rfl (fun i hi => by
    have hh := W.alloc_heap_new (.cells #[.int .u8 c, .int .u8 d] 5)
    match i, hi with
    | 0, _ => rw [Lib.cell_of_heap hh]; rfl
    | 1, _ => rw [Lib.cell_of_heap hh]; rfl) 9 Tryz.underlying9
  rw [h]
  rfl
theorem sw_row {w W1 W2 : World} {g j i : Nat} {l : List (Nat × Nat)} {x y : Nat × Nat} (h : RowAt LimLay w (some ⟨g, 0, none⟩) j l) (hj : 0 < j) (hij : i + 1 < j) (s1 : Sto5 w W1 g (i * 5) y) (s2 : Sto5 W1 W2 g ((i + 1) * 5) x) :
    RowAt LimLay W2 (some ⟨g, 0, none⟩) j ((l.set i y).set (i + 1) x) := by
  obtain ⟨h0, h1, h2, h3⟩ := h
  refine ⟨by rw [List.length_set, List.length_set, h0], h1, fun _ _ => trivial, ?_⟩
  rcases h3 with h3 | ⟨b, off, e, hb, hc⟩
  · omega
  · cases e
    refine .inr ⟨g, 0, rfl, by rw [s2.size, s1.size]; exact hb, fun z n k u hz hk => ?_⟩
    have hk5 : k < 5 := (List.getElem?_eq_some_iff.1 hk).1
    have hm : LimLay.m = 5 := rfl
    rw [hm, Nat.zero_add]
    have put : ∀ {W : World} {p : Nat} {v : Nat × Nat}, At5 W g p v → n = v → W.cell? ⟨g, p + k, none⟩ = some u := by
      intro W p v a e
      subst e
      obtain ⟨a0, a1, a2, a3, a4⟩ := a
      match k, hk5, hk with
      | 0, _, hk => cases hk; exact a0
      | 1, _, hk => cases hk; exact a1
      | 2, _, hk => cases hk; exact a2
      | 3, _, hk => cases hk; exact a3
      | 4, _, hk => cases hk; exact a4
    rw [List.getElem?_set] at hz
    by_cases e1 : i + 1 = z
    · subst e1
      rw [if_pos rfl, if_pos (by rw [List.length_set]; omega)] at hz
      exact put s2.at5 (Option.some.inj hz).symm
    · rw [if_neg e1, List.getElem?_set] at hz
      rw [s2.cell _ (by omega)]
      by_cases e2 : i = z
      · subst e2
        rw [if_pos rfl, if_pos (by omega)] at hz
        exact put s1.at5 (Option.some.inj hz).symm
      · rw [if_neg e2] at hz
        rw [s1.cell _ (by omega)]
        have := hc z n k u hz hk
        rw [hm, Nat.zero_add] at this
        exact this
theorem sw_map {l : List (Nat × Nat)} {j i : Nat} {x y : Nat × Nat} (h : l.map Prod.fst = List.range j) (hx : l[i]? = some x) (hy : l[i + 1]? = some y) (hij : i + 1 < j) :
    (((l.set i y).set (i + 1) x).map fun z => ndL z.1) = (List.range j).map fun z => ndL (swJ i z) := by
  have hl : l.length = j := by have := congrArg List.length h; rw [List.length_map, List.length_range] at this; exact this
  have hn : ∀ (z : Nat) v, l[z]? = some v → v.1 = z := by
    intro z v hv
    have := congrArg (fun t => t[z]?) h
    rw [List.getElem?_map, hv, List.getElem?_range (by rw [← hl]; exact (List.getElem?_eq_some_iff.1 hv).1)] at this
    exact Option.some.inj this
  apply List.ext_getElem?
  intro z
  rw [List.getElem?_map, List.getElem?_map, List.getElem?_set, List.length_set]
  by_cases hz : z < j
  · rw [List.getElem?_range hz]
    by_cases e1 : i + 1 = z
    · subst e1
      rw [if_pos rfl, if_pos (by omega)]
      simp only [Option.map_some, hn i x hx]
      rw [show swJ i (i + 1) = i by unfold swJ; rw [if_neg (by omega), if_pos rfl]]
    · rw [if_neg e1, List.getElem?_set]
      by_cases e2 : i = z
      · subst e2
        rw [if_pos rfl, if_pos (by omega)]
        simp only [Option.map_some, hn _ y hy]
        rw [show swJ i i = i + 1 by unfold swJ; rw [if_pos rfl]]
      · rw [if_neg e2]
        obtain ⟨v, hv⟩ : ∃ v, l[z]? = some v := ⟨_, List.getElem?_eq_getElem (by omega)⟩
        rw [hv]
        simp only [Option.map_some, hn z v hv]
        rw [show swJ i z = z by unfold swJ; rw [if_neg (by omega), if_neg (by omega)]]
  · rw [if_neg (by omega), List.getElem?_set, if_neg (by omega), List.getElem?_eq_none (by omega), List.getElem?_eq_none (by rw [List.length_range]; omega)]
    rfl
theorem sw_vec {w W1 W2 : World} {g p q k cap : Nat} {l : List (Nat × Nat)} {i : Nat} {x y : Nat × Nat} (hv : LimVec w (.slice (some ⟨g, 0, none⟩) k cap) l) (hx : x ∈ l) (hy : y ∈ l) (s1 : Sto5 w W1 g p y) (s2 : Sto5 W1 W2 g q x) :
    ∀ z ∈ (l.set i y).set (i + 1) x, W2.cell? ⟨z.2, 0, none⟩ = some (.string bCpu) ∧ W2.cell? ⟨z.2, 1, none⟩ = some (.int .i64 1) ∧ z.2 < W2.heap.size := by
  intro z hz
  have hm : z ∈ l := by
    rcases List.mem_or_eq_of_mem_set hz with hz | rfl
    · rcases List.mem_or_eq_of_mem_set hz with hz | rfl
      · exact hz
      · exact hy
    · exact hx
  obtain ⟨h0, h1, h2, h3⟩ := hv z hm
  have hne : z.2 ≠ g := fun e => h3 (by rw [e]; rfl)
  have hb : W2.heap[z.2]? = w.heap[z.2]? := (s2.block _ hne).trans (s1.block _ hne)
  exact ⟨(World.cell?_of_block (a := ⟨z.2, 0, none⟩) hb).trans h0, (World.cell?_of_block (a := ⟨z.2, 1, none⟩) hb).trans h1, by rw [s2.size, s1.size]; exact h2⟩

end Go.Proofs.YtppbbgppooblfaaGreatDoor.Nk
