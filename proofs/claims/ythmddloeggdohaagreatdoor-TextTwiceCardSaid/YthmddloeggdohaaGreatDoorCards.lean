/-
  DERIVED. GIVEN WITH THE SEED: THE CARDS: each row of YthmddloeggdohaaGreatDoorRows.lean that lists a variable, with what it lists TIED to the program's text (the seventh form; the later family's looks); each row that meets fmt, with fmt's text TOLD by the authors' own Lean function (tested against real Go, not proved from fmt's source: count such statements apart). THE CARD IS WHAT COUNTS. Prove the row's statement (the work); the ties are given (YthmddloeggdohaaGreatDoorTie.lean); close each card by the builder's one call (the guide's Derived/Test/ToyasCard.lean, 'card_holds'). Laid BY PROGRAM, IN A SANDBOX (cutbox-door.mjs). By AI agents, Wed Nov 11 2026. No macro, syntax, notation, axiom, sorry.
-/
import Derived.Test.YthmddloeggdohaaGreatDoorRows
import GoSem.ClaimSeven
namespace Go.Proofs.YthmddloeggdohaaGreatDoor
namespace Rows

/-- THE TIED CARD OF 'ballastlaw10.TextTwice'. -/
def textTwiceCard : Claim7 := { stood := { row := textTwiceRow, standIns := [], harness := (true, "872b7e457c657fcf17833631aed76e5af744653cc9f9361d6cd584ac18963389"), looks := true }, kinds := [], alts := [], laidByText := true, laidKinds := [.data, .data, .data, .data, .sentinel, .sentinel, .pinned], laidTests := true, laidLooks := .later }
def TextTwiceCardSaid : Prop := Claim7.holds Tryz.pinned (.plain (OpenSpec.ofChange textTwiceSpec)) textTwiceCard

/-- THE SECOND FORM's CARD OF 'ballastlaw10.TextTwice'. -/
def textTwiceUptoCard : Claim7 := { stood := { row := textTwiceUptoRow, standIns := [], harness := (true, "872b7e457c657fcf17833631aed76e5af744653cc9f9361d6cd584ac18963389"), looks := true }, kinds := [], alts := [], laidByText := true, laidKinds := [.data, .data, .data, .data, .sentinel, .sentinel, .pinned], laidTests := true, laidLooks := .later }
def TextTwiceUptoCardSaid : Prop := Claim7.holds Tryz.pinned (.plain (OpenSpec.upto textTwiceSpec)) textTwiceUptoCard
end Rows
end Go.Proofs.YthmddloeggdohaaGreatDoor
