/- Clusters: what is in use, left, all in all, on a node: of all that reads so. -/
import Derived.Test.YtfpgekjhcfoohabGreatStA
import Derived.Test.YtfpgekjhcfoohabGreatStE
import Derived.Test.YtfpgekjhcfoohabGreatStD
import Derived.Test.YtfpgekjhcfoohabGreatStC
import Derived.Deep.RegionHeld3
namespace Go.Proofs.YtfpgekjhcfoohabGreat
open Go.RowKit
set_option linter.unusedVariables false

theorem done_told {r : Int × Vec.V} {w w' : World} {e : Ending} (h : Vec.Done r w e w') : RVec r w e w' := by
  obtain ⟨v, e, h, k⟩ := h
  exact ⟨v, e, h.at_, k⟩
theorem usedR {v : Value} {s : Clu} {w : World} (h : CluR w v s) (x : ByteArray) (hl : LowClu s) : Calls Tryz.prog 11 #[v, .string x] w (RVec (usedSt s x) w) := by
  obtain ⟨v1, v2, v3, rfl, ⟨a, cap, rfl, l1, m1, h1⟩, ⟨b, cp, rfl, l2, m2, h2⟩, ⟨d, cb, rfl, l3, m3, h3⟩⟩ := h
  exact (usedF_any a b d _ cap _ cp _ cb s.nodes s.pods x w h1 h2 hl.nodes).mono fun _ _ h => done_told h
theorem freeR {v : Value} {s : Clu} {w : World} (h : CluR w v s) (x : ByteArray) (hl : LowClu s) : Calls Tryz.prog 15 #[v, .string x] w (RVec (freeSt s x) w) := by
  obtain ⟨v1, v2, v3, rfl, ⟨a, cap, rfl, l1, m1, h1⟩, ⟨b, cp, rfl, l2, m2, h2⟩, ⟨d, cb, rfl, l3, m3, h3⟩⟩ := h
  exact (freeF_any a b d _ cap _ cp _ cb s.nodes s.pods x w h1 h2 hl.nodes).mono fun _ _ h => done_told h
theorem sameFrom_self : ∀ l : Vec.V, Vec.sameFrom l l = true
  | [] => rfl
  | x :: t => by
    unfold Vec.sameFrom
    rw [sameFrom_self t]
    simp [eqS_self]

end Go.Proofs.YtfpgekjhcfoohabGreat
