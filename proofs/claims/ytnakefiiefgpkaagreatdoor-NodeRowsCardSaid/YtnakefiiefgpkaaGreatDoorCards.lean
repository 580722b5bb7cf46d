/-
  DERIVED. GIVEN WITH THE SEED: THE CARDS: each row of YtnakefiiefgpkaaGreatDoorRows.lean that lists a variable, with what it lists TIED to the program's text (the seventh form; the later family's looks); each row that meets fmt, with fmt's text TOLD by the authors' own Lean function (tested against real Go, not proved from fmt's source: count such statements apart). THE CARD IS WHAT COUNTS. Prove the row's statement (the work); the ties are given (YtnakefiiefgpkaaGreatDoorTie.lean); close each card by the builder's one call (the guide's Derived/Test/ToyasCard.lean, 'card_holds'). Laid BY PROGRAM, IN A SANDBOX (cutbox-door.mjs). By AI agents, Wed Nov 11 2026. No macro, syntax, notation, axiom, sorry.
-/
import Derived.Test.YtnakefiiefgpkaaGreatDoorRows
import GoSem.ClaimSeven
namespace Go.Proofs.YtnakefiiefgpkaaGreatDoor
namespace Rows

/-- THE TIED CARD OF 'ballastlaw2.ResTwo'. -/
def resTwoCard : Claim7 := { stood := { row := resTwoRow, standIns := [], harness := (true, "87ea4024c3e05802a9851d182d2df85cc3c2355fa2be80ff0e122c35f17ed8f6"), looks := true }, kinds := [], alts := [], laidByText := true, laidKinds := [.data, .data, .data, .data, .sentinel, .sentinel, .pinned], laidTests := true, laidLooks := .later }
def ResTwoCardSaid : Prop := Claim7.holds Tryz.pinned (.plain (OpenSpec.ofChange resTwoSpec)) resTwoCard

/-- THE TIED CARD OF 'ballastlaw2.ResWords'. -/
def resWordsCard : Claim7 := { stood := { row := resWordsRow, standIns := [], harness := (true, "87ea4024c3e05802a9851d182d2df85cc3c2355fa2be80ff0e122c35f17ed8f6"), looks := true }, kinds := [], alts := [], laidByText := true, laidKinds := [.data, .data, .data, .data, .sentinel, .sentinel, .pinned], laidTests := true, laidLooks := .later }
def ResWordsCardSaid : Prop := Claim7.holds Tryz.pinned (.plain (OpenSpec.ofChange resWordsSpec)) resWordsCard

/-- THE TIED CARD OF 'ballastlaw6.NodeAny'. -/
def nodeAnyCard : Claim7 := { stood := { row := nodeAnyRow, standIns := [], harness := (true, "87ea4024c3e05802a9851d182d2df85cc3c2355fa2be80ff0e122c35f17ed8f6"), looks := true }, kinds := [], alts := [], laidByText := true, laidKinds := [.data, .data, .data, .data, .sentinel, .sentinel, .pinned], laidTests := true, laidLooks := .later }
def NodeAnyCardSaid : Prop := Claim7.holds Tryz.pinned (.plain (OpenSpec.ofChange nodeAnySpec)) nodeAnyCard

/-- THE TIED CARD OF 'ballastlaw6.NodeWords'. -/
def nodeWordsCard : Claim7 := { stood := { row := nodeWordsRow, standIns := [], harness := (true, "87ea4024c3e05802a9851d182d2df85cc3c2355fa2be80ff0e122c35f17ed8f6"), looks := true }, kinds := [], alts := [], laidByText := true, laidKinds := [.data, .data, .data, .data, .sentinel, .sentinel, .pinned], laidTests := true, laidLooks := .later }
def NodeWordsCardSaid : Prop := Claim7.holds Tryz.pinned (.plain (OpenSpec.ofChange nodeWordsSpec)) nodeWordsCard

/-- THE TIED CARD OF 'ballastlaw6.NodeRows'. -/
def nodeRowsCard : Claim7 := { stood := { row := nodeRowsRow, standIns := [], harness := (true, "87ea4024c3e05802a9851d182d2df85cc3c2355fa2be80ff0e122c35f17ed8f6"), looks := true }, kinds := [], alts := [], laidByText := true, laidKinds := [.data, .data, .data, .data, .sentinel, .sentinel, .pinned], laidTests := true, laidLooks := .later }
def NodeRowsCardSaid : Prop := Claim7.holds Tryz.pinned (.plain (OpenSpec.ofChange nodeRowsSpec)) nodeRowsCard

/-- THE TIED CARD OF 'ballastlaw6.NodeLimits'. -/
def nodeLimitsCard : Claim7 := { stood := { row := nodeLimitsRow, standIns := [], harness := (true, "87ea4024c3e05802a9851d182d2df85cc3c2355fa2be80ff0e122c35f17ed8f6"), looks := true }, kinds := [], alts := [], laidByText := true, laidKinds := [.data, .data, .data, .data, .sentinel, .sentinel, .pinned], laidTests := true, laidLooks := .later }
def NodeLimitsCardSaid : Prop := Claim7.holds Tryz.pinned (.plain (OpenSpec.ofChange nodeLimitsSpec)) nodeLimitsCard

/-- THE SECOND FORM's CARD OF 'ballastlaw2.ResTwo'. -/
def resTwoUptoCard : Claim7 := { stood := { row := resTwoUptoRow, standIns := [], harness := (true, "87ea4024c3e05802a9851d182d2df85cc3c2355fa2be80ff0e122c35f17ed8f6"), looks := true }, kinds := [], alts := [], laidByText := true, laidKinds := [.data, .data, .data, .data, .sentinel, .sentinel, .pinned], laidTests := true, laidLooks := .later }
def ResTwoUptoCardSaid : Prop := Claim7.holds Tryz.pinned (.plain (OpenSpec.upto resTwoSpec)) resTwoUptoCard

/-- THE SECOND FORM's CARD OF 'ballastlaw2.ResWords'. -/
def resWordsUptoCard : Claim7 := { stood := { row := resWordsUptoRow, standIns := [], harness := (true, "87ea4024c3e05802a9851d182d2df85cc3c2355fa2be80ff0e122c35f17ed8f6"), looks := true }, kinds := [], alts := [], laidByText := true, laidKinds := [.data, .data, .data, .data, .sentinel, .sentinel, .pinned], laidTests := true, laidLooks := .later }
def ResWordsUptoCardSaid : Prop := Claim7.holds Tryz.pinned (.plain (OpenSpec.upto resWordsSpec)) resWordsUptoCard

/-- THE SECOND FORM's CARD OF 'ballastlaw6.NodeAny'. -/
def nodeAnyUptoCard : Claim7 := { stood := { row := nodeAnyUptoRow, standIns := [], harness := (true, "87ea4024c3e05802a9851d182d2df85cc3c2355fa2be80ff0e122c35f17ed8f6"), looks := true }, kinds := [], alts := [], laidByText := true, laidKinds := [.data, .data, .data, .data, .sentinel, .sentinel, .pinned], laidTests := true, laidLooks := .later }
def NodeAnyUptoCardSaid : Prop := Claim7.holds Tryz.pinned (.plain (OpenSpec.upto nodeAnySpec)) nodeAnyUptoCard

/-- THE SECOND FORM's CARD OF 'ballastlaw6.NodeWords'. -/
def nodeWordsUptoCard : Claim7 := { stood := { row := nodeWordsUptoRow, standIns := [], harness := (true, "87ea4024c3e05802a9851d182d2df85cc3c2355fa2be80ff0e122c35f17ed8f6"), looks := true }, kinds := [], alts := [], laidByText := true, laidKinds := [.data, .data, .data, .data, .sentinel, .sentinel, .pinned], laidTests := true, laidLooks := .later }
def NodeWordsUptoCardSaid : Prop := Claim7.holds Tryz.pinned (.plain (OpenSpec.upto nodeWordsSpec)) nodeWordsUptoCard

/-- THE SECOND FORM's CARD OF 'ballastlaw6.NodeRows'. -/
def nodeRowsUptoCard : Claim7 := { stood := { row := nodeRowsUptoRow, standIns := [], harness := (true, "87ea4024c3e05802a9851d182d2df85cc3c2355fa2be80ff0e122c35f17ed8f6"), looks := true }, kinds := [], alts := [], laidByText := true, laidKinds := [.data, .data, .data, .data, .sentinel, .sentinel, .pinned], laidTests := true, laidLooks := .later }
def NodeRowsUptoCardSaid : Prop := Claim7.holds Tryz.pinned (.plain (OpenSpec.upto nodeRowsSpec)) nodeRowsUptoCard

/-- THE SECOND FORM's CARD OF 'ballastlaw6.NodeLimits'. -/
def nodeLimitsUptoCard : Claim7 := { stood := { row := nodeLimitsUptoRow, standIns := [], harness := (true, "87ea4024c3e05802a9851d182d2df85cc3c2355fa2be80ff0e122c35f17ed8f6"), looks := true }, kinds := [], alts := [], laidByText := true, laidKinds := [.data, .data, .data, .data, .sentinel, .sentinel, .pinned], laidTests := true, laidLooks := .later }
def NodeLimitsUptoCardSaid : Prop := Claim7.holds Tryz.pinned (.plain (OpenSpec.upto nodeLimitsSpec)) nodeLimitsUptoCard
end Rows
end Go.Proofs.YtnakefiiefgpkaaGreatDoor
