/-
  No cell of these rows narrows 'for every input' (looked for: loops, veiled, ifaces, maps, wideKeys, modest, calm, conditions, laid).
  DERIVED. THE GIVEN ROWS OF THIS SEAT. 4 by the template 'for every input the law returns true; each argument reads behind the call as it read before'; 0 by the template 'total and deterministic' (their statements: YtabafpoklpiiiaaGreatTotals.lean).
  GIVEN WITH THE SEED: the statements are not yours to turn. If you find one false, say at which input.
  Laid BY PROGRAM, IN A SANDBOX (cutbox-rows.mjs): the forced cells as the released guide's own fill.sh prints them over the translation 729a9ac15e388da4… (all of the seat's roots in one cut). By AI agents, Wed Nov 11 2026. No macro, syntax, notation, axiom, sorry.
-/
import Derived.Test.YtabafpoklpiiiaaGreatChecked
import GoSem.Claim
import GoSem.ClaimJoined
import GoSem.ClaimMapViews
import Derived.JoinedTies
import Derived.KernelRfl
namespace Go.Proofs.YtabafpoklpiiiaaGreat
/- THE CELL 'sum', in the pinned program and in every row, IS THE sha256 OF THE DUMP (.gsa) THAT YtabafpoklpiiiaaGreatProg.lean LOADS. Nothing in Lean hashes anything: it is a label: what it is worth is what the hold of that sum in a sandbox is worth. -/
noncomputable def Tryz.pinned : Pinned := { name := "ytabafpoklpiiiaagreat", sum := "729a9ac15e388da454a184547f3f0a57328607d9e9c37d7456fcae5ba1b31127", checked := Tryz.checked }
namespace Rows
def none {H : Type} : Left H := { results := [], args := [] }

/-- 'ballastlaw15.WayFewest': WHATEVER THE INPUT: true; the input reads as it did. -/
def wayFewestSpec : ChangeSpec := { name := "wayFewest", fn := fun _ => fun
  | [d1, d2, d3] => { results := [.lit (.bool true)], args := [d1, d2, d3] }
  | _ => none }
def wayFewestRow : OpenClaim := { program := "ytabafpoklpiiiaagreat", sum := "729a9ac15e388da454a184547f3f0a57328607d9e9c37d7456fcae5ba1b31127", func := "ballast/ballastlaw15.WayFewest", spec := "wayFewest", inPlace := ["slices.overlaps[ballast/pod.Pod]"], unfollowed := true, recurses := true, apart := false }
def WayFewestSaid : Prop := wayFewestRow.holds Tryz.pinned (OpenSpec.ofChange wayFewestSpec)

/-- ITS FALSE NEIGHBOUR: 'it returns false'. Refute it at one input. -/
def wayFewestWrong : ChangeSpec := { name := "wayFewest", fn := fun _ => fun
  | [d1, d2, d3] => { results := [.lit (.bool false)], args := [d1, d2, d3] }
  | _ => none }
def WayFewestWrongFalsely : Prop := wayFewestRow.holds Tryz.pinned (OpenSpec.ofChange wayFewestWrong)

/-- 'ballastlaw15.WayNeeds': WHATEVER THE INPUT: true; the input reads as it did. -/
def wayNeedsSpec : ChangeSpec := { name := "wayNeeds", fn := fun _ => fun
  | [d] => { results := [.lit (.bool true)], args := [d] }
  | _ => none }
def wayNeedsRow : OpenClaim := { program := "ytabafpoklpiiiaagreat", sum := "729a9ac15e388da454a184547f3f0a57328607d9e9c37d7456fcae5ba1b31127", func := "ballast/ballastlaw15.WayNeeds", spec := "wayNeeds", unfollowed := true, recurses := true, apart := false }
def WayNeedsSaid : Prop := wayNeedsRow.holds Tryz.pinned (OpenSpec.ofChange wayNeedsSpec)

/-- ITS FALSE NEIGHBOUR: 'it returns false'. Refute it at one input. -/
def wayNeedsWrong : ChangeSpec := { name := "wayNeeds", fn := fun _ => fun
  | [d] => { results := [.lit (.bool false)], args := [d] }
  | _ => none }
def WayNeedsWrongFalsely : Prop := wayNeedsRow.holds Tryz.pinned (OpenSpec.ofChange wayNeedsWrong)

/-- 'ballastlaw15.WayThere': WHATEVER THE INPUT: true; the input reads as it did. -/
def wayThereSpec : ChangeSpec := { name := "wayThere", fn := fun _ => fun
  | [d1, d2] => { results := [.lit (.bool true)], args := [d1, d2] }
  | _ => none }
def wayThereRow : OpenClaim := { program := "ytabafpoklpiiiaagreat", sum := "729a9ac15e388da454a184547f3f0a57328607d9e9c37d7456fcae5ba1b31127", func := "ballast/ballastlaw15.WayThere", spec := "wayThere", inPlace := ["slices.overlaps[ballast/pod.Pod]"], unfollowed := true, recurses := true, apart := false }
def WayThereSaid : Prop := wayThereRow.holds Tryz.pinned (OpenSpec.ofChange wayThereSpec)

/-- ITS FALSE NEIGHBOUR: 'it returns false'. Refute it at one input. -/
def wayThereWrong : ChangeSpec := { name := "wayThere", fn := fun _ => fun
  | [d1, d2] => { results := [.lit (.bool false)], args := [d1, d2] }
  | _ => none }
def WayThereWrongFalsely : Prop := wayThereRow.holds Tryz.pinned (OpenSpec.ofChange wayThereWrong)

/-- 'ballastlaw15.WayAny': WHATEVER THE INPUT: true; the input reads as it did. -/
def wayAnySpec : ChangeSpec := { name := "wayAny", fn := fun _ => fun
  | [d1, d2] => { results := [.lit (.bool true)], args := [d1, d2] }
  | _ => none }
def wayAnyRow : OpenClaim := { program := "ytabafpoklpiiiaagreat", sum := "729a9ac15e388da454a184547f3f0a57328607d9e9c37d7456fcae5ba1b31127", func := "ballast/ballastlaw15.WayAny", spec := "wayAny", unfollowed := true, recurses := true, apart := false }
def WayAnySaid : Prop := wayAnyRow.holds Tryz.pinned (OpenSpec.ofChange wayAnySpec)

/-- ITS FALSE NEIGHBOUR: 'it returns false'. Refute it at one input. -/
def wayAnyWrong : ChangeSpec := { name := "wayAny", fn := fun _ => fun
  | [d1, d2] => { results := [.lit (.bool false)], args := [d1, d2] }
  | _ => none }
def WayAnyWrongFalsely : Prop := wayAnyRow.holds Tryz.pinned (OpenSpec.ofChange wayAnyWrong)

/- THE SECOND FORM. 'bulk': how many values and letters a reading holds, each counted each time it is reached (what is shared counts as often as it is met; a slice's spare places count too). A statement '..UptoSaid' is the law's where the arguments, and the package variables that the reading takes, are together of bulk at most 1048576: NARROWER than '..Said'. Prove '..Said' where nothing that the law and all that it calls make is longer than what came in: it says more and counts as full. Else prove '..UptoSaid'. A law counts once. -/
mutual
def uptoBulk {H : Type} : DataW H → Nat
  | .lit (.string bytes) => bytes.length + 1
  | .lit _ => 1
  | .nil => 1
  | .ptr d => uptoBulk d + 1
  | .slice elems spare => uptoBulkAll elems + uptoBulkAll spare + 1
  | .agg parts => uptoBulkAll parts + 1
  | .iface _ d => uptoBulk d + 1
  | .map entries => uptoBulkEntries entries + 1
  | .held _ => 1
def uptoBulkAll {H : Type} : List (DataW H) → Nat
  | [] => 0
  | d :: r => uptoBulk d + uptoBulkAll r
def uptoBulkEntries {H : Type} : List (Lit × DataW H) → Nat
  | [] => 0
  | x :: r => uptoBulkEntry x + uptoBulkEntries r
def uptoBulkEntry {H : Type} : Lit × DataW H → Nat
  | (.string bytes, d) => bytes.length + uptoBulk d + 1
  | (_, d) => uptoBulk d + 1
 end
def uptoSmall : (H : Type) → List (DataW H) → Bool := fun _ ds => decide (uptoBulkAll ds ≤ 1048576)
def OpenSpec.upto (s : _root_.Go.ChangeSpec) : _root_.Go.OpenSpec := { _root_.Go.OpenSpec.ofChange s with cond := some uptoSmall }

/-- 'ballastlaw15.WayFewest', WHERE WHAT IT READS IS OF BULK AT MOST 1048576: true; the input reads as it did. -/
def wayFewestUptoRow : OpenClaim := { program := "ytabafpoklpiiiaagreat", sum := "729a9ac15e388da454a184547f3f0a57328607d9e9c37d7456fcae5ba1b31127", func := "ballast/ballastlaw15.WayFewest", spec := "wayFewest", inPlace := ["slices.overlaps[ballast/pod.Pod]"], unfollowed := true, recurses := true, apart := false, narrowed := true }
def WayFewestUptoSaid : Prop := wayFewestUptoRow.holds Tryz.pinned (OpenSpec.upto wayFewestSpec)

/-- 'ballastlaw15.WayNeeds', WHERE WHAT IT READS IS OF BULK AT MOST 1048576: true; the input reads as it did. -/
def wayNeedsUptoRow : OpenClaim := { program := "ytabafpoklpiiiaagreat", sum := "729a9ac15e388da454a184547f3f0a57328607d9e9c37d7456fcae5ba1b31127", func := "ballast/ballastlaw15.WayNeeds", spec := "wayNeeds", unfollowed := true, recurses := true, apart := false, narrowed := true }
def WayNeedsUptoSaid : Prop := wayNeedsUptoRow.holds Tryz.pinned (OpenSpec.upto wayNeedsSpec)

/-- 'ballastlaw15.WayThere', WHERE WHAT IT READS IS OF BULK AT MOST 1048576: true; the input reads as it did. -/
def wayThereUptoRow : OpenClaim := { program := "ytabafpoklpiiiaagreat", sum := "729a9ac15e388da454a184547f3f0a57328607d9e9c37d7456fcae5ba1b31127", func := "ballast/ballastlaw15.WayThere", spec := "wayThere", inPlace := ["slices.overlaps[ballast/pod.Pod]"], unfollowed := true, recurses := true, apart := false, narrowed := true }
def WayThereUptoSaid : Prop := wayThereUptoRow.holds Tryz.pinned (OpenSpec.upto wayThereSpec)

/-- 'ballastlaw15.WayAny', WHERE WHAT IT READS IS OF BULK AT MOST 1048576: true; the input reads as it did. -/
def wayAnyUptoRow : OpenClaim := { program := "ytabafpoklpiiiaagreat", sum := "729a9ac15e388da454a184547f3f0a57328607d9e9c37d7456fcae5ba1b31127", func := "ballast/ballastlaw15.WayAny", spec := "wayAny", unfollowed := true, recurses := true, apart := false, narrowed := true }
def WayAnyUptoSaid : Prop := wayAnyUptoRow.holds Tryz.pinned (OpenSpec.upto wayAnySpec)

end Rows
end Go.Proofs.YtabafpoklpiiiaaGreat
