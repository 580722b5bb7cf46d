/- That a world only grows: some draws, some blocks laid behind. -/
import Derived.Test.YthlhaefaafjmlaaDoorLabBase
import Derived.Sort.Grow
import Derived.Shelf.SlSortCmp.QuietGrown
import Derived.Lib.AppendIntMem
namespace Go.Proofs.YthlhaefaafjmlaaDoor
open Go.RowKit Go.Sort
set_option linter.unusedVariables false

/-- Some draws, some blocks laid behind. -/
def Grw (w w' : World) : Prop := ∃ q os, w' = grow (w.drewN q) os
theorem Grw.refl (w : World) : Grw w w := ⟨0, #[], by rw [grow_empty]; rfl⟩
theorem Grw.grown {w W : World} (h : Grw w W) (n : Nat) (os : Array Obj) : Grw w (grow (W.drewN n) os) := by
  obtain ⟨q, os0, rfl⟩ := h
  exact ⟨q + n, os0 ++ os, by show grow (grow ((w.drewN q).drewN n) os0) os = _; rw [grow_grow, World.drewN_drewN]⟩
theorem Grw.trans {a b c : World} (h : Grw a b) (k : Grw b c) : Grw a c := by
  obtain ⟨q, os, rfl⟩ := k
  exact h.grown q os
theorem Grw.alloc (w : World) (o : Obj) : Grw w (w.alloc o) := ⟨0, #[o], alloc_eq_grow _ _⟩
theorem Grw.drewN (w : World) (n : Nat) : Grw w (w.drewN n) := ⟨n, #[], by rw [grow_empty]⟩
theorem kept_grow (w : World) (n : Nat) (os : Array Obj) : Kept w (grow (w.drewN n) os) := Go.Lib.below_grow w.heap.size w (Nat.le_refl _) n os
theorem Grw.kept {w w' : World} (h : Grw w w') : Kept w w' := by
  obtain ⟨q, os, rfl⟩ := h
  exact kept_grow w q os

end Go.Proofs.YthlhaefaafjmlaaDoor
