/- Clusters: what is in use, left, all in all, on a node: of all that reads so. -/
import Derived.Test.YtapnffejnhkoaaaGreatStA
import Derived.Test.YtapnffejnhkoaaaGreatStE
import Derived.Test.YtapnffejnhkoaaaGreatStD
import Derived.Test.YtapnffejnhkoaaaGreatStC
import Derived.Deep.RegionHeld3
namespace Go.Proofs.YtapnffejnhkoaaaGreat
open Go.RowKit
set_option linter.unusedVariables false

theorem done_told {r : Int × Vec.V} {w w' : World} {e : Ending} (h : Vec.Done r w e w') : RVec r w e w' := by
  obtain ⟨v, e, h, k⟩ := h
  exact ⟨v, e, h.at_, k⟩
theorem freeR {v : Value} {s : Clu} {w : World} (h : CluR w v s) (x : ByteArray) (hl : LowClu s) : Calls Tryz.prog 11 #[v, .string x] w (RVec (freeSt s x) w) := by
  obtain ⟨v1, v2, v3, rfl, ⟨a, cap, rfl, l1, m1, h1⟩, ⟨b, cp, rfl, l2, m2, h2⟩, ⟨d, cb, rfl, l3, m3, h3⟩⟩ := h
  exact (freeF_any a b d _ cap _ cp _ cb s.nodes s.pods x w h1 h2 hl.nodes).mono fun _ _ h => done_told h
theorem totalR {v : Value} {s : Clu} {w : World} (h : CluR w v s) : Calls Tryz.prog 6 #[v] w (RVec (totalSt s) w) := by
  obtain ⟨v1, v2, v3, rfl, ⟨a, cap, rfl, l1, m1, h1⟩, ⟨b, cp, rfl, l2, m2, h2⟩, ⟨d, cb, rfl, l3, m3, h3⟩⟩ := h
  exact (totalF_any a b d _ cap _ cp _ cb s.nodes s.pods w h1).mono fun _ _ h => done_told h
theorem ofVR {v : Value} {l : Vec.V} {w : World} (h : Vec.Reads w v l) (hf : l.length ≤ 8) : Calls Tryz.prog 8 #[v] w fun e w' => ∃ y, e = .returned y ∧ Vec.Reads w' y l ∧ Kept w w' := by
  refine (ofVO h (by omega)).mono ?_
  rintro e w' ⟨x, he, ho, k⟩
  exact ⟨x, he, ho.at_, k⟩
end Go.Proofs.YtapnffejnhkoaaaGreat
