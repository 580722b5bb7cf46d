/- A pod's text read: parsed. -/
import Derived.Test.YtflllkpnkcmegaaGreatDoorPodWords
import Derived.Test.YtflllkpnkcmegaaGreatDoorNodParsed
import Derived.Test.YtflllkpnkcmegaaGreatDoorBase
import Derived.Deep.RegionHeld3
import Derived.Handy
import Derived.Deep.CutRange
import Derived.Laws.ResultCell
namespace Go.Proofs.YtflllkpnkcmegaaGreatDoor
open Go.RowKit
set_option linter.unusedVariables false

/-- A text says a pod: its ten words, each of its form. -/
def Says (s : List UInt8) (n : Pd) : Prop := ∃ a b c d e f g h i j : List UInt8, partsAt 32 s = [a, b, c, d, e, f, g, h, i, j] ∧ n.name = bytes a ∧ optL b = some n.owner ∧ prioL c = some n.prio ∧ Vec.parseV d = (0, n.need) ∧ parsedP e = (0, n.labels) ∧ parsedT f = (0, n.sel) ∧ parsedO g = (0, n.tols) ∧ spreadL h = some (n.key, n.most) ∧ optL i = some n.node ∧ kindL j = some n.hold
/-- What a call does that makes a pod, or panics. -/
def PodRes (c : Int) (n : Pd) (w : World) (e : Ending) (w' : World) : Prop := (c = 0 → ∃ v, e = .returned v ∧ PodRB w.heap.size w' v n) ∧ (c ≠ 0 → e = .panicked [perr c]) ∧ Kept w w'
theorem PodRes.bad {c : Int} {n : Pd} {w w' : World} (hc : c ≠ 0) (hb : Kept w w') : PodRes c n w (.panicked [perr c]) w' := ⟨fun g => absurd g hc, fun _ => rfl, hb⟩
theorem num_fine {p : List UInt8} {n : Int} (h : numL p = some n) : -9223372036854775808 ≤ n ∧ n ≤ 9223372036854775807 := by
  obtain ⟨_, h2, rfl⟩ := num_parts h; omega
end Go.Proofs.YtflllkpnkcmegaaGreatDoor
