/-
  DERIVED. GIVEN WITH THE SEED: THE CARDS: each row of YtppbbgppooblfaaDoorRows.lean that lists a variable, with what it lists TIED to the program's text (the seventh form; the later family's looks); each row that meets fmt, with fmt's text TOLD by the authors' own Lean function (tested against real Go, not proved from fmt's source: count such statements apart). THE CARD IS WHAT COUNTS. Prove the row's statement (the work); the ties are given (YtppbbgppooblfaaDoorTie.lean); close each card by the builder's one call (the guide's Derived/Test/ToyasCard.lean, 'card_holds'). Laid BY PROGRAM, IN A SANDBOX (cutbox-door.mjs). By AI agents, Wed Nov 11 2026. No macro, syntax, notation, axiom, sorry.
-/
import Derived.Test.YtppbbgppooblfaaDoorRows
import GoSem.ClaimSeven
namespace Go.Proofs.YtppbbgppooblfaaDoor
namespace Rows

/-- THE TIED CARD OF 'ballastlaw2.ResSums'. -/
def resSumsCard : Claim7 := { stood := { row := resSumsRow, standIns := [], harness := (true, "b20b3aef44731d40c3ecd1c55d31e98eff283c247508d7e3f558b8eeb2282d1c"), looks := true }, kinds := [], alts := [], laidByText := true, laidKinds := [.data, .data, .data, .data, .sentinel, .sentinel, .pinned], laidTests := true, laidLooks := .later }
def ResSumsCardSaid : Prop := Claim7.holds Tryd.pinned (.plain (OpenSpec.ofChange resSumsSpec)) resSumsCard

/-- THE SECOND FORM's CARD OF 'ballastlaw2.ResSums'. -/
def resSumsUptoCard : Claim7 := { stood := { row := resSumsUptoRow, standIns := [], harness := (true, "b20b3aef44731d40c3ecd1c55d31e98eff283c247508d7e3f558b8eeb2282d1c"), looks := true }, kinds := [], alts := [], laidByText := true, laidKinds := [.data, .data, .data, .data, .sentinel, .sentinel, .pinned], laidTests := true, laidLooks := .later }
def ResSumsUptoCardSaid : Prop := Claim7.holds Tryd.pinned (.plain (OpenSpec.upto resSumsSpec)) resSumsUptoCard
end Rows
end Go.Proofs.YtppbbgppooblfaaDoor
