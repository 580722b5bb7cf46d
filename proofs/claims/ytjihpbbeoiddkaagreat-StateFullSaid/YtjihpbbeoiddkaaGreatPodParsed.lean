/- A pod's text read: parsed. -/
import Derived.Test.YtjihpbbeoiddkaaGreatPodWords
import Derived.Test.YtjihpbbeoiddkaaGreatNodParsed
import Derived.Test.YtjihpbbeoiddkaaGreatBase
import Derived.Deep.RegionHeld3
import Derived.Handy
import Derived.Deep.CutRange
import Derived.Laws.ResultCell
namespace Go.Proofs.YtjihpbbeoiddkaaGreat
open Go.RowKit
set_option linter.unusedVariables false

/-- What a call does that makes a pod, or panics. -/
def PodRes (c : Int) (n : Pd) (w : World) (e : Ending) (w' : World) : Prop := (c = 0 → ∃ v, e = .returned v ∧ PodRB w.heap.size w' v n) ∧ (c ≠ 0 → e = .panicked [perr c]) ∧ Kept w w'
theorem PodRes.bad {c : Int} {n : Pd} {w w' : World} (hc : c ≠ 0) (hb : Kept w w') : PodRes c n w (.panicked [perr c]) w' := ⟨fun g => absurd g hc, fun _ => rfl, hb⟩
end Go.Proofs.YtjihpbbeoiddkaaGreat
