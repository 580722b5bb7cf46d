/- Nodes as the reference has them: OfAll. -/
import Derived.Test.YtflllkpnkcmegaaGreatDoorNodOf
import Derived.Test.YtflllkpnkcmegaaGreatDoorBase
import Derived.Deep.AppendLies
namespace Go.Proofs.YtflllkpnkcmegaaGreatDoor
open Go.RowKit
set_option linter.unusedVariables false

theorem Reads.grown {α : Type} {L : Lay α} {w w' : World} {row : Option Nat} {a : Option Addr} {m c : Nat} {l : List α} (h : Reads L w (.slice a m c) l) (hg : w.grownBy w' row) (hb : ∀ b off sp, a = some ⟨b, off, sp⟩ → some b ≠ row) : Reads L w' (.slice a m c) l := by
  obtain ⟨a', cap', e, h1, h2, h3, h4, h5, h6⟩ := h
  cases e
  refine ⟨a, c, rfl, h1, h2, h3, h4, h5, h6.imp id ?_⟩
  rintro ⟨b, off, rfl, hlt, hc⟩
  exact ⟨b, off, rfl, Nat.lt_of_lt_of_le hlt hg.size, fun i x j u hi hj => (World.cell?_of_block (a := ⟨b, off + i * L.m + j, none⟩) (hg.block b hlt (hb b off none rfl))).trans (hc i x j u hi hj)⟩
theorem Vec.Reads.grown {w w' : World} {row : Option Nat} {a : Option Addr} {m c : Nat} {l : Vec.V} (h : Vec.Reads w (.slice a m c) l) (hg : w.grownBy w' row) (hb : ∀ b off sp, a = some ⟨b, off, sp⟩ → some b ≠ row) : Vec.Reads w' (.slice a m c) l := by
  obtain ⟨a', cap', e, h1, h2, h3, h4, h5, h6⟩ := h
  cases e
  refine ⟨a, c, rfl, h1, h2, h3, h4, h5, h6.imp id ?_⟩
  rintro ⟨b, off, rfl, hlt, hc⟩
  exact ⟨b, off, rfl, Nat.lt_of_lt_of_le hlt hg.size, fun i hi => ⟨(World.cell?_of_block (a := ⟨b, off + i * 2, none⟩) (hg.block b hlt (hb b off none rfl))).trans (hc i hi).1, (World.cell?_of_block (a := ⟨b, off + i * 2 + 1, none⟩) (hg.block b hlt (hb b off none rfl))).trans (hc i hi).2⟩⟩
end Go.Proofs.YtflllkpnkcmegaaGreatDoor
