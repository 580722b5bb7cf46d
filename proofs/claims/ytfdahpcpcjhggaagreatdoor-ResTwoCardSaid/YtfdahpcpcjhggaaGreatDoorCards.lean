/-
  DERIVED. GIVEN WITH THE SEED: THE CARDS: each row of YtfdahpcpcjhggaaGreatDoorRows.lean that lists a variable, with what it lists TIED to the program's text (the seventh form; the later family's looks); each row that meets fmt, with fmt's text TOLD by the authors' own Lean function (tested against real Go, not proved from fmt's source: count such statements apart). THE CARD IS WHAT COUNTS. Prove the row's statement (the work); the ties are given (YtfdahpcpcjhggaaGreatDoorTie.lean); close each card by the builder's one call (the guide's Derived/Test/ToyasCard.lean, 'card_holds'). Laid BY PROGRAM, IN A SANDBOX (cutbox-door.mjs). By AI agents, Wed Nov 11 2026. No macro, syntax, notation, axiom, sorry.
-/
import Derived.Test.YtfdahpcpcjhggaaGreatDoorRows
import GoSem.ClaimSeven
namespace Go.Proofs.YtfdahpcpcjhggaaGreatDoor
namespace Rows

/-- THE TIED CARD OF 'ballastlaw2.ResTwo'. -/
def resTwoCard : Claim7 := { stood := { row := resTwoRow, standIns := [], harness := (true, "56610dbe302e00dda74a9362ab6add42ea0d91c41b283f684dc7ed3239ea81d1"), looks := true }, kinds := [], alts := [], laidByText := true, laidKinds := [.data, .data, .data, .data, .sentinel, .sentinel, .pinned], laidTests := true, laidLooks := .later }
def ResTwoCardSaid : Prop := Claim7.holds Tryz.pinned (.plain (OpenSpec.ofChange resTwoSpec)) resTwoCard

/-- THE SECOND FORM's CARD OF 'ballastlaw2.ResTwo'. -/
def resTwoUptoCard : Claim7 := { stood := { row := resTwoUptoRow, standIns := [], harness := (true, "56610dbe302e00dda74a9362ab6add42ea0d91c41b283f684dc7ed3239ea81d1"), looks := true }, kinds := [], alts := [], laidByText := true, laidKinds := [.data, .data, .data, .data, .sentinel, .sentinel, .pinned], laidTests := true, laidLooks := .later }
def ResTwoUptoCardSaid : Prop := Claim7.holds Tryz.pinned (.plain (OpenSpec.upto resTwoSpec)) resTwoUptoCard
end Rows
end Go.Proofs.YtfdahpcpcjhggaaGreatDoor
