/-
  DERIVED. GIVEN WITH THE SEED: THE CARDS: each row of YtnnneimpdiadhaaDoorRows.lean that lists a variable, with what it lists TIED to the program's text (the seventh form; the later family's looks); each row that meets fmt, with fmt's text TOLD by the authors' own Lean function (tested against real Go, not proved from fmt's source: count such statements apart). THE CARD IS WHAT COUNTS. Prove the row's statement (the work); the ties are given (YtnnneimpdiadhaaDoorTie.lean); close each card by the builder's one call (the guide's Derived/Test/ToyasCard.lean, 'card_holds'). Laid BY PROGRAM, IN A SANDBOX (cutbox-door.mjs). By AI agents, Wed Nov 11 2026. No macro, syntax, notation, axiom, sorry.
-/
import Derived.Test.YtnnneimpdiadhaaDoorRows
import GoSem.ClaimSeven
namespace Go.Proofs.YtnnneimpdiadhaaDoor
namespace Rows

/-- THE TIED CARD OF 'ballastlaw2.ResSums'. -/
def resSumsCard : Claim7 := { stood := { row := resSumsRow, standIns := [], harness := (true, "68fa5e08e84a3e76bbb601694490c0df89806bbfe22928b7edb55c66af1ab99b"), looks := true }, kinds := [], alts := [], laidByText := true, laidKinds := [.data, .data, .data, .data, .sentinel, .sentinel, .pinned], laidTests := true, laidLooks := .later }
def ResSumsCardSaid : Prop := Claim7.holds Tryd.pinned (.plain (OpenSpec.ofChange resSumsSpec)) resSumsCard

/-- THE TIED CARD OF 'ballastlaw2.ResParts'. -/
def resPartsCard : Claim7 := { stood := { row := resPartsRow, standIns := [], harness := (true, "68fa5e08e84a3e76bbb601694490c0df89806bbfe22928b7edb55c66af1ab99b"), looks := true }, kinds := [], alts := [], laidByText := true, laidKinds := [.data, .data, .data, .data, .sentinel, .sentinel, .pinned], laidTests := true, laidLooks := .later }
def ResPartsCardSaid : Prop := Claim7.holds Tryd.pinned (.plain (OpenSpec.ofChange resPartsSpec)) resPartsCard

/-- THE TIED CARD OF 'ballastlaw2.ResFits'. -/
def resFitsCard : Claim7 := { stood := { row := resFitsRow, standIns := [], harness := (true, "68fa5e08e84a3e76bbb601694490c0df89806bbfe22928b7edb55c66af1ab99b"), looks := true }, kinds := [], alts := [], laidByText := true, laidKinds := [.data, .data, .data, .data, .sentinel, .sentinel, .pinned], laidTests := true, laidLooks := .later }
def ResFitsCardSaid : Prop := Claim7.holds Tryd.pinned (.plain (OpenSpec.ofChange resFitsSpec)) resFitsCard

/-- THE SECOND FORM's CARD OF 'ballastlaw2.ResSums'. -/
def resSumsUptoCard : Claim7 := { stood := { row := resSumsUptoRow, standIns := [], harness := (true, "68fa5e08e84a3e76bbb601694490c0df89806bbfe22928b7edb55c66af1ab99b"), looks := true }, kinds := [], alts := [], laidByText := true, laidKinds := [.data, .data, .data, .data, .sentinel, .sentinel, .pinned], laidTests := true, laidLooks := .later }
def ResSumsUptoCardSaid : Prop := Claim7.holds Tryd.pinned (.plain (OpenSpec.upto resSumsSpec)) resSumsUptoCard

/-- THE SECOND FORM's CARD OF 'ballastlaw2.ResParts'. -/
def resPartsUptoCard : Claim7 := { stood := { row := resPartsUptoRow, standIns := [], harness := (true, "68fa5e08e84a3e76bbb601694490c0df89806bbfe22928b7edb55c66af1ab99b"), looks := true }, kinds := [], alts := [], laidByText := true, laidKinds := [.data, .data, .data, .data, .sentinel, .sentinel, .pinned], laidTests := true, laidLooks := .later }
def ResPartsUptoCardSaid : Prop := Claim7.holds Tryd.pinned (.plain (OpenSpec.upto resPartsSpec)) resPartsUptoCard

/-- THE SECOND FORM's CARD OF 'ballastlaw2.ResFits'. -/
def resFitsUptoCard : Claim7 := { stood := { row := resFitsUptoRow, standIns := [], harness := (true, "68fa5e08e84a3e76bbb601694490c0df89806bbfe22928b7edb55c66af1ab99b"), looks := true }, kinds := [], alts := [], laidByText := true, laidKinds := [.data, .data, .data, .data, .sentinel, .sentinel, .pinned], laidTests := true, laidLooks := .later }
def ResFitsUptoCardSaid : Prop := Claim7.holds Tryd.pinned (.plain (OpenSpec.upto resFitsSpec)) resFitsUptoCard
end Rows
end Go.Proofs.YtnnneimpdiadhaaDoor
