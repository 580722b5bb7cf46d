/-
  No cell of these rows narrows 'for every input' (looked for: loops, veiled, ifaces, maps, wideKeys, modest, calm, conditions, laid).
  DERIVED. THE GIVEN ROWS OF THIS SEAT. 4 by the template 'for every input the law returns true; each argument reads behind the call as it read before'; 0 by the template 'total and deterministic' (their statements: YtfpgekjhcfoohaaGreatTotals.lean).
  GIVEN WITH THE SEED: the statements are not yours to turn. If you find one false, say at which input.
  Laid BY PROGRAM, IN A SANDBOX (cutbox-rows.mjs): the forced cells as the released guide's own fill.sh prints them over the translation 96d8f0ccf2862482… (all of the seat's roots in one cut). By AI agents, Wed Nov 11 2026. No macro, syntax, notation, axiom, sorry.
-/
import Derived.Test.YtfpgekjhcfoohaaGreatChecked
import GoSem.Claim
import GoSem.ClaimJoined
import GoSem.ClaimMapViews
import Derived.JoinedTies
import Derived.KernelRfl
namespace Go.Proofs.YtfpgekjhcfoohaaGreat
/- THE CELL 'sum', in the pinned program and in every row, IS THE sha256 OF THE DUMP (.gsa) THAT YtfpgekjhcfoohaaGreatProg.lean LOADS. Nothing in Lean hashes anything: it is a label: what it is worth is what the hold of that sum in a sandbox is worth. -/
noncomputable def Tryz.pinned : Pinned := { name := "ytfpgekjhcfoohaagreat", sum := "96d8f0ccf28624822d1bc4618dda44b86dbd1ca92d6855825ebb535dd5f17884", checked := Tryz.checked }
namespace Rows
def none {H : Type} : Left H := { results := [], args := [] }

/-- 'ballastlaw9.StateTwo': WHATEVER THE INPUT: true; the input reads as it did. -/
def stateTwoSpec : ChangeSpec := { name := "stateTwo", fn := fun _ => fun
  | [d1, d2] => { results := [.lit (.bool true)], args := [d1, d2] }
  | _ => none }
def stateTwoRow : OpenClaim := { program := "ytfpgekjhcfoohaagreat", sum := "96d8f0ccf28624822d1bc4618dda44b86dbd1ca92d6855825ebb535dd5f17884", func := "ballast/ballastlaw9.StateTwo", spec := "stateTwo", inPlace := ["slices.overlaps[ballast/pod.Pod]"], unfollowed := true, recurses := true, apart := false }
def StateTwoSaid : Prop := stateTwoRow.holds Tryz.pinned (OpenSpec.ofChange stateTwoSpec)

/-- ITS FALSE NEIGHBOUR: 'it returns false'. Refute it at one input. -/
def stateTwoWrong : ChangeSpec := { name := "stateTwo", fn := fun _ => fun
  | [d1, d2] => { results := [.lit (.bool false)], args := [d1, d2] }
  | _ => none }
def StateTwoWrongFalsely : Prop := stateTwoRow.holds Tryz.pinned (OpenSpec.ofChange stateTwoWrong)

/-- 'ballastlaw9.StateFull': WHATEVER THE INPUT: true; the input reads as it did. -/
def stateFullSpec : ChangeSpec := { name := "stateFull", fn := fun _ => fun
  | [d1, d2] => { results := [.lit (.bool true)], args := [d1, d2] }
  | _ => none }
def stateFullRow : OpenClaim := { program := "ytfpgekjhcfoohaagreat", sum := "96d8f0ccf28624822d1bc4618dda44b86dbd1ca92d6855825ebb535dd5f17884", func := "ballast/ballastlaw9.StateFull", spec := "stateFull", inPlace := ["slices.overlaps[ballast/pod.Pod]"], unfollowed := true, recurses := true, apart := false }
def StateFullSaid : Prop := stateFullRow.holds Tryz.pinned (OpenSpec.ofChange stateFullSpec)

/-- ITS FALSE NEIGHBOUR: 'it returns false'. Refute it at one input. -/
def stateFullWrong : ChangeSpec := { name := "stateFull", fn := fun _ => fun
  | [d1, d2] => { results := [.lit (.bool false)], args := [d1, d2] }
  | _ => none }
def StateFullWrongFalsely : Prop := stateFullRow.holds Tryz.pinned (OpenSpec.ofChange stateFullWrong)

/-- 'ballastlaw9.StatePuts': WHATEVER THE INPUT: true; the input reads as it did. -/
def statePutsSpec : ChangeSpec := { name := "statePuts", fn := fun _ => fun
  | [d1, d2] => { results := [.lit (.bool true)], args := [d1, d2] }
  | _ => none }
def statePutsRow : OpenClaim := { program := "ytfpgekjhcfoohaagreat", sum := "96d8f0ccf28624822d1bc4618dda44b86dbd1ca92d6855825ebb535dd5f17884", func := "ballast/ballastlaw9.StatePuts", spec := "statePuts", inPlace := ["slices.overlaps[ballast/pod.Pod]"], unfollowed := true, recurses := true, apart := false }
def StatePutsSaid : Prop := statePutsRow.holds Tryz.pinned (OpenSpec.ofChange statePutsSpec)

/-- ITS FALSE NEIGHBOUR: 'it returns false'. Refute it at one input. -/
def statePutsWrong : ChangeSpec := { name := "statePuts", fn := fun _ => fun
  | [d1, d2] => { results := [.lit (.bool false)], args := [d1, d2] }
  | _ => none }
def StatePutsWrongFalsely : Prop := statePutsRow.holds Tryz.pinned (OpenSpec.ofChange statePutsWrong)

/-- 'ballastlaw9.StateChanges': WHATEVER THE INPUT: true; the input reads as it did. -/
def stateChangesSpec : ChangeSpec := { name := "stateChanges", fn := fun _ => fun
  | [d1, d2, d3, d4] => { results := [.lit (.bool true)], args := [d1, d2, d3, d4] }
  | _ => none }
def stateChangesRow : OpenClaim := { program := "ytfpgekjhcfoohaagreat", sum := "96d8f0ccf28624822d1bc4618dda44b86dbd1ca92d6855825ebb535dd5f17884", func := "ballast/ballastlaw9.StateChanges", spec := "stateChanges", inPlace := ["slices.overlaps[ballast/pod.Pod]"], unfollowed := true, recurses := true, apart := false }
def StateChangesSaid : Prop := stateChangesRow.holds Tryz.pinned (OpenSpec.ofChange stateChangesSpec)

/-- ITS FALSE NEIGHBOUR: 'it returns false'. Refute it at one input. -/
def stateChangesWrong : ChangeSpec := { name := "stateChanges", fn := fun _ => fun
  | [d1, d2, d3, d4] => { results := [.lit (.bool false)], args := [d1, d2, d3, d4] }
  | _ => none }
def StateChangesWrongFalsely : Prop := stateChangesRow.holds Tryz.pinned (OpenSpec.ofChange stateChangesWrong)

/- THE SECOND FORM. 'bulk': how many values and letters a reading holds, each counted each time it is reached (what is shared counts as often as it is met; a slice's spare places count too). A statement '..UptoSaid' is the law's where the arguments, and the package variables that the reading takes, are together of bulk at most 1048576: NARROWER than '..Said'. Prove '..Said' where nothing that the law and all that it calls make is longer than what came in: it says more and counts as full. Else prove '..UptoSaid'. A law counts once. -/
mutual
def uptoBulk {H : Type} : DataW H → Nat
  | .lit (.string bytes) => bytes.length + 1
  | .lit _ => 1
  | .nil => 1
  | .ptr d => uptoBulk d + 1
  | .slice elems spare => uptoBulkAll elems + uptoBulkAll spare + 1
  | .agg parts => uptoBulkAll parts + 1
  | .iface _ d => uptoBulk d + 1
  | .map entries => uptoBulkEntries entries + 1
  | .held _ => 1
def uptoBulkAll {H : Type} : List (DataW H) → Nat
  | [] => 0
  | d :: r => uptoBulk d + uptoBulkAll r
def uptoBulkEntries {H : Type} : List (Lit × DataW H) → Nat
  | [] => 0
  | x :: r => uptoBulkEntry x + uptoBulkEntries r
def uptoBulkEntry {H : Type} : Lit × DataW H → Nat
  | (.string bytes, d) => bytes.length + uptoBulk d + 1
  | (_, d) => uptoBulk d + 1
 end
def uptoSmall : (H : Type) → List (DataW H) → Bool := fun _ ds => decide (uptoBulkAll ds ≤ 1048576)
def OpenSpec.upto (s : _root_.Go.ChangeSpec) : _root_.Go.OpenSpec := { _root_.Go.OpenSpec.ofChange s with cond := some uptoSmall }

/-- 'ballastlaw9.StateTwo', WHERE WHAT IT READS IS OF BULK AT MOST 1048576: true; the input reads as it did. -/
def stateTwoUptoRow : OpenClaim := { program := "ytfpgekjhcfoohaagreat", sum := "96d8f0ccf28624822d1bc4618dda44b86dbd1ca92d6855825ebb535dd5f17884", func := "ballast/ballastlaw9.StateTwo", spec := "stateTwo", inPlace := ["slices.overlaps[ballast/pod.Pod]"], unfollowed := true, recurses := true, apart := false, narrowed := true }
def StateTwoUptoSaid : Prop := stateTwoUptoRow.holds Tryz.pinned (OpenSpec.upto stateTwoSpec)

/-- 'ballastlaw9.StateFull', WHERE WHAT IT READS IS OF BULK AT MOST 1048576: true; the input reads as it did. -/
def stateFullUptoRow : OpenClaim := { program := "ytfpgekjhcfoohaagreat", sum := "96d8f0ccf28624822d1bc4618dda44b86dbd1ca92d6855825ebb535dd5f17884", func := "ballast/ballastlaw9.StateFull", spec := "stateFull", inPlace := ["slices.overlaps[ballast/pod.Pod]"], unfollowed := true, recurses := true, apart := false, narrowed := true }
def StateFullUptoSaid : Prop := stateFullUptoRow.holds Tryz.pinned (OpenSpec.upto stateFullSpec)

/-- 'ballastlaw9.StatePuts', WHERE WHAT IT READS IS OF BULK AT MOST 1048576: true; the input reads as it did. -/
def statePutsUptoRow : OpenClaim := { program := "ytfpgekjhcfoohaagreat", sum := "96d8f0ccf28624822d1bc4618dda44b86dbd1ca92d6855825ebb535dd5f17884", func := "ballast/ballastlaw9.StatePuts", spec := "statePuts", inPlace := ["slices.overlaps[ballast/pod.Pod]"], unfollowed := true, recurses := true, apart := false, narrowed := true }
def StatePutsUptoSaid : Prop := statePutsUptoRow.holds Tryz.pinned (OpenSpec.upto statePutsSpec)

/-- 'ballastlaw9.StateChanges', WHERE WHAT IT READS IS OF BULK AT MOST 1048576: true; the input reads as it did. -/
def stateChangesUptoRow : OpenClaim := { program := "ytfpgekjhcfoohaagreat", sum := "96d8f0ccf28624822d1bc4618dda44b86dbd1ca92d6855825ebb535dd5f17884", func := "ballast/ballastlaw9.StateChanges", spec := "stateChanges", inPlace := ["slices.overlaps[ballast/pod.Pod]"], unfollowed := true, recurses := true, apart := false, narrowed := true }
def StateChangesUptoSaid : Prop := stateChangesUptoRow.holds Tryz.pinned (OpenSpec.upto stateChangesSpec)

end Rows
end Go.Proofs.YtfpgekjhcfoohaaGreat
