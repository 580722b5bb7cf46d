/- Nodes as the reference has them: OfAll. -/
import Derived.Test.YtjihpbbeoiddkaaGreatNodOf
import Derived.Test.YtjihpbbeoiddkaaGreatBase
import Derived.Deep.AppendLies
namespace Go.Proofs.YtjihpbbeoiddkaaGreat
open Go.RowKit
set_option linter.unusedVariables false

theorem Reads.grown {α : Type} {L : Lay α} {w w' : World} {row : Option Nat} {a : Option Addr} {m c : Nat} {l : List α} (h : Reads L w (.slice a m c) l) (hg : w.grownBy w' row) (hb : ∀ b off sp, a = some ⟨b, off, sp⟩ → some b ≠ row) : Reads L w' (.slice a m c) l := by
  obtain ⟨a', cap', e, h1, h2, h3, h4, h5, h6⟩ := h
  cases e
  refine ⟨a, c, rfl, h1, h2, h3, h4, h5, h6.imp id ?_⟩
  rintro ⟨b, off, rfl, hlt, hc⟩
  exact ⟨b, off, rfl, Nat.lt_of_lt_of_le hlt hg.size, fun i x j u hi hj => (World.cell?_of_block (a := ⟨b, off + i * L.m + j, none⟩) (hg.block b hlt (hb b off none rfl))).trans (hc i x j u hi hj)⟩
theorem Vec.Reads.grown {w w' : World} {row : Option Nat} {a : Option Addr} {m c : Nat} {l : Vec.V} (h : Vec.Reads w (.slice a m c) l) (hg : w.grownBy w' row) (hb : ∀ b off sp, a = some ⟨b, off, sp⟩ → some b ≠ row) : Vec.Reads w' (.slice a m c) l := by
  obtain ⟨a', cap', e, h1, h2, h3, h4, h5, h6⟩ := h
  cases e
  refine ⟨a, c, rfl, h1, h2, h3, h4, h5, h6.imp id ?_⟩
  rintro ⟨b, off, rfl, hlt, hc⟩
  exact ⟨b, off, rfl, Nat.lt_of_lt_of_le hlt hg.size, fun i hi => ⟨(World.cell?_of_block (a := ⟨b, off + i * 2, none⟩) (hg.block b hlt (hb b off none rfl))).trans (hc i hi).1, (World.cell?_of_block (a := ⟨b, off + i * 2 + 1, none⟩) (hg.block b hlt (hb b off none rfl))).trans (hc i hi).2⟩⟩
theorem one_node0 (x : NX) (u : Value) (h : u ∈ [Value.string x.1.name, slV x.2.1, slV x.2.2.1, slV x.2.2.2, .bool x.1.cordon]) : u.oneCell' = true := by
  simp only [List.mem_cons, List.not_mem_nil, or_false] at h
  rcases h with rfl | rfl | rfl | rfl | rfl <;> rfl
def NodLay0 : Lay NX := { m := 5, cs := fun x => [.string x.1.name, slV x.2.1, slV x.2.2.1, slV x.2.2.2, .bool x.1.cordon], fine := fun _ => True, len := fun _ => rfl, one := one_node0, pos := by decide }
theorem nodes_own {w : World} {T : TypeId} {B : Nat} {v : Value} {lx : List NX} (ho : Own NodLay0 T w B v lx) (hf : ∀ z ∈ lx, At3 w z) : NodesR w v (lx.map fun z => z.1) := by
  obtain ⟨a, cap, rfl, h1, h2, h3⟩ := ho.at_
  obtain ⟨g0, g1, g2, g3⟩ := h3
  refine ⟨a, cap, by rw [List.length_map], by rw [List.length_map]; exact h1, h2, rfl, by rw [List.length_map]; exact g1, ?_⟩
  rw [List.length_map]
  rcases g3 with g3 | ⟨b, off, rfl, hb, hc⟩
  · exact .inl g3
  · refine .inr ⟨b, off, rfl, hb, fun i n hi => ?_⟩
    rw [List.getElem?_map] at hi
    obtain ⟨z, hz, rfl⟩ := Option.map_eq_some_iff.1 hi
    exact ⟨_, _, _, _, _, _, _, _, _, hc i z 0 _ hz rfl, hc i z 1 _ hz rfl, hc i z 2 _ hz rfl, hc i z 3 _ hz rfl, hc i z 4 _ hz rfl, hf z (List.mem_of_getElem? hz)⟩
end Go.Proofs.YtjihpbbeoiddkaaGreat
