/- A node's text read: parsed. -/
import Derived.Test.YtfpgekjhcfoohaaGreatNodA
import Derived.Test.YtfpgekjhcfoohaaGreatBase
import Derived.Deep.RegionHeld3
import Derived.Handy
import Derived.Deep.CutRange
import Derived.Laws.ResultCell
set_option linter.unusedVariables false
namespace Go.Proofs.YtfpgekjhcfoohaaGreat
open Go.RowKit
def NodRB (B : Nat) (w : World) (v : Value) (n : Nod) : Prop := ∃ a1 m1 c1 a2 m2 c2 a3 m3 c3, v = .agg #[.string n.name, .slice a1 m1 c1, .slice a2 m2 c2, .slice a3 m3 c3, .bool n.cordon] ∧ n.name.size ≤ maxLen ∧ Vec.Reads w (.slice a1 m1 c1) n.cap ∧ Reads PairLay w (.slice a2 m2 c2) n.labels ∧ Reads TaLay w (.slice a3 m3 c3) n.taints ∧
 (∀ b off sp, a1 = some ⟨b, off, sp⟩ → B ≤ b) ∧ (∀ b off sp, a2 = some ⟨b, off, sp⟩ → B ≤ b) ∧ (∀ b off sp, a3 = some ⟨b, off, sp⟩ → B ≤ b)
theorem NodRB.toR {B : Nat} {w : World} {v : Value} {n : Nod} (h : NodRB B w v n) : NodR w v n := by
 obtain ⟨a1, m1, c1, a2, m2, c2, a3, m3, c3, e, h0, h1, h2, h3, _⟩ := h
 exact ⟨_, _, _, e, h0, h1, h2, h3⟩
def NodRes (r : Int × Nod) (w : World) (e : Ending) (w' : World) : Prop := (r.1 = 0 → ∃ v, e = .returned v ∧ NodRB w.heap.size w' v r.2) ∧ (r.1 ≠ 0 → e = .panicked [perr r.1]) ∧ Kept w w'
theorem NodRes.good {r : Int × Nod} {w w' : World} {v : Value} (h : r.1 = 0) (ho : NodRB w.heap.size w' v r.2) (hb : Kept w w') : NodRes r w (.returned v) w' := ⟨fun _ => ⟨v, rfl, ho⟩, fun g => absurd h g, hb⟩
theorem NodRes.bad {r : Int × Nod} {w w' : World} {c : Int} (h : r.1 = c) (hc : c ≠ 0) (hb : Kept w w') : NodRes r w (.panicked [perr c]) w' := ⟨fun g => absurd (h.symm.trans g) hc, fun _ => by rw [h], hb⟩
theorem Vec.Done.spelt {r : Int × Vec.V} {w w' : World} {e : Ending} (h : Vec.Done r w e w') : ∃ a m cap, e = .returned (.tuple #[.slice a m cap, .int .i64 r.1]) ∧ Vec.Reads w' (.slice a m cap) r.2 ∧ (∀ b off sp, a = some ⟨b, off, sp⟩ → w.heap.size ≤ b ∧ b < w'.heap.size) ∧ Kept w w' := by
 obtain ⟨v, rfl, ho, k⟩ := h
 obtain ⟨a, cap, rfl, h⟩ := ho.at_
 exact ⟨a, _, cap, rfl, ⟨a, cap, rfl, h⟩, fun b off sp e => ho.1.lt b (by subst e; rfl), k⟩
theorem fresh5 (w : World) (v0 v1 v2 v3 v4 : Value) (T : TypeId) (W : World) (k : Kept (w.alloc (.cells #[v0, v1, v2, v3, v4] T)) W) :
 (W.cell? ⟨w.heap.size, 0, none⟩ = some v0 ∧ W.cell? ⟨w.heap.size, 1, none⟩ = some v1 ∧ W.cell? ⟨w.heap.size, 2, none⟩ = some v2 ∧ W.cell? ⟨w.heap.size, 3, none⟩ = some v3 ∧ W.cell? ⟨w.heap.size, 4, none⟩ = some v4) ∧
 W.frozen? ⟨w.heap.size, 0, none⟩ = false ∧ W.frozen? ⟨w.heap.size, 1, none⟩ = false ∧ W.frozen? ⟨w.heap.size, 2, none⟩ = false ∧ W.frozen? ⟨w.heap.size, 3, none⟩ = false ∧ W.frozen? ⟨w.heap.size, 4, none⟩ = false := by
 have hh := w.alloc_heap_new (.cells #[v0, v1, v2, v3, v4] T)
 have hf : ∀ j, W.frozen? ⟨w.heap.size, j, none⟩ = false := fun j => by
  have := k.frozen (p := ⟨w.heap.size, j, none⟩) (by simp)
  rw [this]
  unfold World.frozen?
  rw [show (w.alloc (.cells #[v0, v1, v2, v3, v4] T)).heap[(⟨w.heap.size, j, none⟩ : Addr).block]? = some (.cells #[v0, v1, v2, v3, v4] T) from hh]
  simp
 exact ⟨⟨cell_later k (by rw [Lib.cell_of_heap hh]; rfl), cell_later k (by rw [Lib.cell_of_heap hh]; rfl), cell_later k (by rw [Lib.cell_of_heap hh]; rfl), cell_later k (by rw [Lib.cell_of_heap hh]; rfl), cell_later k (by rw [Lib.cell_of_heap hh]; rfl)⟩, hf 0, hf 1, hf 2, hf 3, hf 4⟩
theorem set5_block (W : World) (q : Nat) (u0 u1 u2 u3 u4 : Value) (b : Nat) (h : b ≠ q) :
 (((((W.setCell ⟨q, 0, none⟩ u0).setCell ⟨q, 1, none⟩ u1).setCell ⟨q, 2, none⟩ u2).setCell ⟨q, 3, none⟩ u3).setCell ⟨q, 4, none⟩ u4).heap[b]? = W.heap[b]? :=
 (Below.heap_setCell _ ⟨q, 4, none⟩ _ b h).trans ((Below.heap_setCell _ ⟨q, 3, none⟩ _ b h).trans ((Below.heap_setCell _ ⟨q, 2, none⟩ _ b h).trans ((Below.heap_setCell _ ⟨q, 1, none⟩ _ b h).trans (Below.heap_setCell _ ⟨q, 0, none⟩ _ b h))))
theorem set5_size (W : World) (q : Nat) (u0 u1 u2 u3 u4 : Value) :
 (((((W.setCell ⟨q, 0, none⟩ u0).setCell ⟨q, 1, none⟩ u1).setCell ⟨q, 2, none⟩ u2).setCell ⟨q, 3, none⟩ u3).setCell ⟨q, 4, none⟩ u4).heap.size = W.heap.size := by simp [World.setCell]
theorem Reads.far {α : Type} {L : Lay α} {w w' : World} {a : Option Addr} {m cap : Nat} {l : List α} (h : Reads L w (.slice a m cap) l) (hs : w'.heap.size = w.heap.size) (hb : ∀ b off sp, a = some ⟨b, off, sp⟩ → w'.heap[b]? = w.heap[b]?) : Reads L w' (.slice a m cap) l := by
 obtain ⟨a', cap', e, h1, h2, h3, h4, h5, h6⟩ := h
 cases e
 refine ⟨a, cap, rfl, h1, h2, h3, h4, h5, h6.imp id ?_⟩
 rintro ⟨b, off, rfl, hlt, hc⟩
 exact ⟨b, off, rfl, by rw [hs]; exact hlt, fun i x j u hi hj => (World.cell?_of_block (a := ⟨b, off + i * L.m + j, none⟩) (hb b off none rfl)).trans (hc i x j u hi hj)⟩
theorem Vec.Reads.far {w w' : World} {a : Option Addr} {m cap : Nat} {l : Vec.V} (h : Vec.Reads w (.slice a m cap) l) (hs : w'.heap.size = w.heap.size) (hb : ∀ b off sp, a = some ⟨b, off, sp⟩ → w'.heap[b]? = w.heap[b]?) : Vec.Reads w' (.slice a m cap) l := by
 obtain ⟨a', cap', e, h1, h2, h3, h4, h5, h6⟩ := h
 cases e
 refine ⟨a, cap, rfl, h1, h2, h3, h4, h5, h6.imp id ?_⟩
 rintro ⟨b, off, rfl, hlt, hc⟩
 exact ⟨b, off, rfl, by rw [hs]; exact hlt, fun i hi => ⟨(World.cell?_of_block (a := ⟨b, off + i * 2, none⟩) (hb b off none rfl)).trans (hc i hi).1, (World.cell?_of_block (a := ⟨b, off + i * 2 + 1, none⟩) (hb b off none rfl)).trans (hc i hi).2⟩⟩
theorem set5_cells {W : World} {q : Nat} {v0 v1 v2 v3 v4 u0 u1 u2 u3 u4 : Value} (y0 : W.cell? ⟨q, 0, none⟩ = some v0) (y1 : W.cell? ⟨q, 1, none⟩ = some v1) (y2 : W.cell? ⟨q, 2, none⟩ = some v2) (y3 : W.cell? ⟨q, 3, none⟩ = some v3) (y4 : W.cell? ⟨q, 4, none⟩ = some v4) (W' : World)
 (hW : (((((W.setCell ⟨q, 0, none⟩ u0).setCell ⟨q, 1, none⟩ u1).setCell ⟨q, 2, none⟩ u2).setCell ⟨q, 3, none⟩ u3).setCell ⟨q, 4, none⟩ u4) = W') :
 W'.cell? ⟨q, 0, none⟩ = some u0 ∧ W'.cell? ⟨q, 1, none⟩ = some u1 ∧ W'.cell? ⟨q, 2, none⟩ = some u2 ∧ W'.cell? ⟨q, 3, none⟩ = some u3 ∧ W'.cell? ⟨q, 4, none⟩ = some u4 := by
 subst hW
 refine ⟨?_, ?_, ?_, ?_, ?_⟩ <;> go_simp
theorem Vec.Reads.mk' {w : World} {a : Option Addr} {cap : Nat} {l : Vec.V} (h1 : l.length ≤ cap) (h2 : cap ≤ maxLen) (h3 : Vec.VecAt w a l.length l) : Vec.Reads w (.slice a l.length cap) l := ⟨a, cap, rfl, h1, h2, h3⟩
theorem Reads.mk' {α : Type} {L : Lay α} {w : World} {a : Option Addr} {cap : Nat} {l : List α} (h1 : l.length ≤ cap) (h2 : cap ≤ maxLen) (h3 : RowAt L w a l.length l) : Reads L w (.slice a l.length cap) l := ⟨a, cap, rfl, h1, h2, h3⟩
end Go.Proofs.YtfpgekjhcfoohaaGreat
