/-
  DERIVED. GIVEN WITH THE SEED: THE CARDS: each row of YteoedoomhnnnoaaGreatDoorRows.lean that lists a variable, with what it lists TIED to the program's text (the seventh form; the later family's looks); each row that meets fmt, with fmt's text TOLD by the authors' own Lean function (tested against real Go, not proved from fmt's source: count such statements apart). THE CARD IS WHAT COUNTS. Prove the row's statement (the work); the ties are given (YteoedoomhnnnoaaGreatDoorTie.lean); close each card by the builder's one call (the guide's Derived/Test/ToyasCard.lean, 'card_holds'). Laid BY PROGRAM, IN A SANDBOX (cutbox-door.mjs). By AI agents, Wed Nov 11 2026. No macro, syntax, notation, axiom, sorry.
-/
import Derived.Test.YteoedoomhnnnoaaGreatDoorRows
import GoSem.ClaimSeven
namespace Go.Proofs.YteoedoomhnnnoaaGreatDoor
namespace Rows

/-- THE TIED CARD OF 'ballastlaw10.TextBack'. -/
def textBackCard : Claim7 := { stood := { row := textBackRow, standIns := [], harness := (true, "e8bfefb9e9f86bb35b58b92f2b60b119457ebe14060e8f6b3a3a306000fdd4f4"), looks := true }, kinds := [], alts := [], laidByText := true, laidKinds := [.data, .data, .data, .data, .sentinel, .sentinel, .pinned], laidTests := true, laidLooks := .later }
def TextBackCardSaid : Prop := Claim7.holds Tryz.pinned (.plain (OpenSpec.ofChange textBackSpec)) textBackCard

/-- THE TIED CARD OF 'ballastlaw10.TextNoise'. -/
def textNoiseCard : Claim7 := { stood := { row := textNoiseRow, standIns := [], harness := (true, "e8bfefb9e9f86bb35b58b92f2b60b119457ebe14060e8f6b3a3a306000fdd4f4"), looks := true }, kinds := [], alts := [], laidByText := true, laidKinds := [.data, .data, .data, .data, .sentinel, .sentinel, .pinned], laidTests := true, laidLooks := .later }
def TextNoiseCardSaid : Prop := Claim7.holds Tryz.pinned (.plain (OpenSpec.ofChange textNoiseSpec)) textNoiseCard

/-- THE TIED CARD OF 'ballastlaw10.TextTwice'. -/
def textTwiceCard : Claim7 := { stood := { row := textTwiceRow, standIns := [], harness := (true, "e8bfefb9e9f86bb35b58b92f2b60b119457ebe14060e8f6b3a3a306000fdd4f4"), looks := true }, kinds := [], alts := [], laidByText := true, laidKinds := [.data, .data, .data, .data, .sentinel, .sentinel, .pinned], laidTests := true, laidLooks := .later }
def TextTwiceCardSaid : Prop := Claim7.holds Tryz.pinned (.plain (OpenSpec.ofChange textTwiceSpec)) textTwiceCard

/-- THE SECOND FORM's CARD OF 'ballastlaw10.TextBack'. -/
def textBackUptoCard : Claim7 := { stood := { row := textBackUptoRow, standIns := [], harness := (true, "e8bfefb9e9f86bb35b58b92f2b60b119457ebe14060e8f6b3a3a306000fdd4f4"), looks := true }, kinds := [], alts := [], laidByText := true, laidKinds := [.data, .data, .data, .data, .sentinel, .sentinel, .pinned], laidTests := true, laidLooks := .later }
def TextBackUptoCardSaid : Prop := Claim7.holds Tryz.pinned (.plain (OpenSpec.upto textBackSpec)) textBackUptoCard

/-- THE SECOND FORM's CARD OF 'ballastlaw10.TextNoise'. -/
def textNoiseUptoCard : Claim7 := { stood := { row := textNoiseUptoRow, standIns := [], harness := (true, "e8bfefb9e9f86bb35b58b92f2b60b119457ebe14060e8f6b3a3a306000fdd4f4"), looks := true }, kinds := [], alts := [], laidByText := true, laidKinds := [.data, .data, .data, .data, .sentinel, .sentinel, .pinned], laidTests := true, laidLooks := .later }
def TextNoiseUptoCardSaid : Prop := Claim7.holds Tryz.pinned (.plain (OpenSpec.upto textNoiseSpec)) textNoiseUptoCard

/-- THE SECOND FORM's CARD OF 'ballastlaw10.TextTwice'. -/
def textTwiceUptoCard : Claim7 := { stood := { row := textTwiceUptoRow, standIns := [], harness := (true, "e8bfefb9e9f86bb35b58b92f2b60b119457ebe14060e8f6b3a3a306000fdd4f4"), looks := true }, kinds := [], alts := [], laidByText := true, laidKinds := [.data, .data, .data, .data, .sentinel, .sentinel, .pinned], laidTests := true, laidLooks := .later }
def TextTwiceUptoCardSaid : Prop := Claim7.holds Tryz.pinned (.plain (OpenSpec.upto textTwiceSpec)) textTwiceUptoCard
end Rows
end Go.Proofs.YteoedoomhnnnoaaGreatDoor
