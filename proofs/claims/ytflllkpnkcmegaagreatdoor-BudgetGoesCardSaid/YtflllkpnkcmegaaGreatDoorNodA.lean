/- Package by package: contracts of the functions that the laws call. -/
import Derived.Test.YtflllkpnkcmegaaGreatDoorLab
import Derived.Test.YtflllkpnkcmegaaGreatDoorTai
import Derived.Test.YtflllkpnkcmegaaGreatDoorResC
import Derived.Deep.RegionHeld3
import Derived.Laws.BytesArg
import Derived.Test.YtflllkpnkcmegaaGreatDoorBase

/- Whether two rows of pairs, of taints are the same: slices.Equal, and the reference's loops. -/
namespace Go.Proofs.YtflllkpnkcmegaaGreatDoor
open Go.RowKit
set_option linter.unusedVariables false

end Go.Proofs.YtflllkpnkcmegaaGreatDoor

/- Nodes: how they are held, whether they may be, whether two are the same. -/
namespace Go.Proofs.YtflllkpnkcmegaaGreatDoor
open Go.RowKit
set_option linter.unusedVariables false

/-- A node's parts. -/
structure Nod where
  name : ByteArray
  cap : Vec.V
  labels : PL
  taints : NL
  cordon : Bool
def Nod.zero : Nod := ⟨ByteArray.empty, [], [], [], false⟩
abbrev NodV (n : Nod) (v1 v2 v3 : Value) : Value := .agg #[.string n.name, v1, v2, v3, .bool n.cordon]
/-- The three rows read as the node's. -/
structure NodAt (w : World) (v1 v2 v3 : Value) (n : Nod) : Prop where
  size : n.name.size ≤ maxLen
  cap : Vec.Reads w v1 n.cap
  labels : Reads PairLay w v2 n.labels
  taints : Reads TaLay w v3 n.taints
theorem NodAt.kept {w w' : World} {v1 v2 v3 : Value} {n : Nod} (h : NodAt w v1 v2 v3 n) (k : Kept w w') : NodAt w' v1 v2 v3 n := ⟨h.size, h.cap.kept k, h.labels.kept k, h.taints.kept k⟩
/-- A value that reads as a node. -/
def NodR (w : World) (v : Value) (n : Nod) : Prop := ∃ v1 v2 v3, v = NodV n v1 v2 v3 ∧ NodAt w v1 v2 v3 n
theorem NodR.kept {w w' : World} {v : Value} {n : Nod} (h : NodR w v n) (k : Kept w w') : NodR w' v n := by
  obtain ⟨v1, v2, v3, e, h⟩ := h
  exact ⟨v1, v2, v3, e, h.kept k⟩

end Go.Proofs.YtflllkpnkcmegaaGreatDoor

/- The reference's Decimal. -/
namespace Go.Proofs.YtflllkpnkcmegaaGreatDoor.Vec
open Go.RowKit Go.Proofs.YtflllkpnkcmegaaGreatDoor
set_option linter.unusedVariables false

end Go.Proofs.YtflllkpnkcmegaaGreatDoor.Vec

/- The reference's VecText. -/
namespace Go.Proofs.YtflllkpnkcmegaaGreatDoor.Vec
open Go.RowKit Go.Proofs.YtflllkpnkcmegaaGreatDoor
set_option linter.unusedVariables false

end Go.Proofs.YtflllkpnkcmegaaGreatDoor.Vec

/- A node in words: the program's, the reference's. -/
namespace Go.Proofs.YtflllkpnkcmegaaGreatDoor
open Go.RowKit
set_option linter.unusedVariables false

end Go.Proofs.YtflllkpnkcmegaaGreatDoor

/- A node's five words. -/
namespace Go.Proofs.YtflllkpnkcmegaaGreatDoor
open Go.RowKit
set_option linter.unusedVariables false

end Go.Proofs.YtflllkpnkcmegaaGreatDoor
