/- As many nodes as may be, in order, and one more; two exchanged: the law, walked. -/
import Derived.Test.YtflllkpnkcmegaaGreatDoorLimBase
import Derived.Test.YtflllkpnkcmegaaGreatDoorBase
import Derived.Deep.AppendLies
namespace Go.Proofs.YtflllkpnkcmegaaGreatDoor.Nk
open Go.RowKit
set_option linter.unusedVariables false

theorem kept_three (w : World) (a b c : Obj) : Kept w (((w.alloc a).alloc b).alloc c) := ((kept_alloc w a).trans (kept_alloc _ b)).trans (kept_alloc _ c)
theorem second_cells (w : World) (a c : Obj) (vs : Array Value) (T : TypeId) (i : Nat) (v : Value) (hv : vs[i]? = some v) : (((w.alloc a).alloc (.cells vs T)).alloc c).cell? ⟨w.heap.size + 1, i, none⟩ = some v := by
  have h := (w.alloc a).alloc_heap_new (.cells vs T)
  rw [World.size_alloc] at h
  refine cell_later (kept_alloc _ c) ?_
  rw [Lib.cell_of_heap h]
  simpa using hv
end Go.Proofs.YtflllkpnkcmegaaGreatDoor.Nk
