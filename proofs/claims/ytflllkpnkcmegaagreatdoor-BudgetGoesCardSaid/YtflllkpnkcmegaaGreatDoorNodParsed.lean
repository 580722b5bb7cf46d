/- A node's text read: parsed. -/
import Derived.Test.YtflllkpnkcmegaaGreatDoorNodA
import Derived.Test.YtflllkpnkcmegaaGreatDoorBase
import Derived.Deep.RegionHeld3
import Derived.Handy
import Derived.Deep.CutRange
import Derived.Laws.ResultCell
namespace Go.Proofs.YtflllkpnkcmegaaGreatDoor
open Go.RowKit
set_option linter.unusedVariables false

/-- A value that reads as a node, its rows spelt out, from block B on. -/
def NodRB (B : Nat) (w : World) (v : Value) (n : Nod) : Prop := ∃ a1 m1 c1 a2 m2 c2 a3 m3 c3, v = .agg #[.string n.name, .slice a1 m1 c1, .slice a2 m2 c2, .slice a3 m3 c3, .bool n.cordon] ∧ n.name.size ≤ maxLen ∧ Vec.Reads w (.slice a1 m1 c1) n.cap ∧ Reads PairLay w (.slice a2 m2 c2) n.labels ∧ Reads TaLay w (.slice a3 m3 c3) n.taints ∧
  (∀ b off sp, a1 = some ⟨b, off, sp⟩ → B ≤ b) ∧ (∀ b off sp, a2 = some ⟨b, off, sp⟩ → B ≤ b) ∧ (∀ b off sp, a3 = some ⟨b, off, sp⟩ → B ≤ b)
theorem NodRB.toR {B : Nat} {w : World} {v : Value} {n : Nod} (h : NodRB B w v n) : NodR w v n := by
  obtain ⟨a1, m1, c1, a2, m2, c2, a3, m3, c3, e, h0, h1, h2, h3, _⟩ := h
  exact ⟨_, _, _, e, h0, h1, h2, h3⟩
/-- What a call does that makes a node, or panics. -/
def NodRes (r : Int × Nod) (w : World) (e : Ending) (w' : World) : Prop := (r.1 = 0 → ∃ v, e = .returned v ∧ NodRB w.heap.size w' v r.2) ∧ (r.1 ≠ 0 → e = .panicked [perr r.1]) ∧ Kept w w'
theorem NodRes.bad {r : Int × Nod} {w w' : World} {c : Int} (h : r.1 = c) (hc : c ≠ 0) (hb : Kept w w') : NodRes r w (.panicked [perr c]) w' := ⟨fun g => absurd (h.symm.trans g) hc, fun _ => by rw [h], hb⟩

/-- What a call answers that makes a row: its slice spelt out; it lies behind what was there. -/
theorem Vec.Done.spelt {r : Int × Vec.V} {w w' : World} {e : Ending} (h : Vec.Done r w e w') : ∃ a m cap, e = .returned (.tuple #[.slice a m cap, .int .i64 r.1]) ∧ Vec.Reads w' (.slice a m cap) r.2 ∧ (∀ b off sp, a = some ⟨b, off, sp⟩ → w.heap.size ≤ b ∧ b < w'.heap.size) ∧ Kept w w' := by
  obtain ⟨v, rfl, ho, k⟩ := h
  obtain ⟨a, cap, rfl, h⟩ := ho.at_
  exact ⟨a, _, cap, rfl, ⟨a, cap, rfl, h⟩, fun b off sp e => ho.1.lt b (by subst e; rfl), k⟩
theorem own_spelt {α : Type} {L : Lay α} {T : TypeId} {c : Int} {l : List α} {w w' : World} {e : Ending} (h : ∃ v, e = .returned (.tuple #[v, .int .i64 c]) ∧ Own L T w' w.heap.size v l ∧ Kept w w') : ∃ a m cap, e = .returned (.tuple #[.slice a m cap, .int .i64 c]) ∧ Reads L w' (.slice a m cap) l ∧ (∀ b off sp, a = some ⟨b, off, sp⟩ → w.heap.size ≤ b ∧ b < w'.heap.size) ∧ Kept w w' := by
  obtain ⟨v, rfl, ho, k⟩ := h
  obtain ⟨a, cap, rfl, h⟩ := ho.at_
  exact ⟨a, _, cap, rfl, ⟨a, cap, rfl, h⟩, fun b off sp e => ho.1.lt b (by subst e; rfl), k⟩
/-- What is read elsewhere stays read. -/
theorem Reads.far {α : Type} {L : Lay α} {w w' : World} {a : Option Addr} {m cap : Nat} {l : List α} (h : Reads L w (.slice a m cap) l) (hs : w'.heap.size = w.heap.size) (hb : ∀ b off sp, a = some ⟨b, off, sp⟩ → w'.heap[b]? = w.heap[b]?) : Reads L w' (.slice a m cap) l := by
  obtain ⟨a', cap', e, h1, h2, h3, h4, h5, h6⟩ := h
  cases e
  refine ⟨a, cap, rfl, h1, h2, h3, h4, h5, h6.imp id ?_⟩
  rintro ⟨b, off, rfl, hlt, hc⟩
  exact ⟨b, off, rfl, by rw [hs]; exact hlt, fun i x j u hi hj => (World.cell?_of_block (a := ⟨b, off + i * L.m + j, none⟩) (hb b off none rfl)).trans (hc i x j u hi hj)⟩
theorem Vec.Reads.far {w w' : World} {a : Option Addr} {m cap : Nat} {l : Vec.V} (h : Vec.Reads w (.slice a m cap) l) (hs : w'.heap.size = w.heap.size) (hb : ∀ b off sp, a = some ⟨b, off, sp⟩ → w'.heap[b]? = w.heap[b]?) : Vec.Reads w' (.slice a m cap) l := by
  obtain ⟨a', cap', e, h1, h2, h3, h4, h5, h6⟩ := h
  cases e
  refine ⟨a, cap, rfl, h1, h2, h3, h4, h5, h6.imp id ?_⟩
  rintro ⟨b, off, rfl, hlt, hc⟩
  exact ⟨b, off, rfl, by rw [hs]; exact hlt, fun i hi => ⟨(World.cell?_of_block (a := ⟨b, off + i * 2, none⟩) (hb b off none rfl)).trans (hc i hi).1, (World.cell?_of_block (a := ⟨b, off + i * 2 + 1, none⟩) (hb b off none rfl)).trans (hc i hi).2⟩⟩
end Go.Proofs.YtflllkpnkcmegaaGreatDoor
