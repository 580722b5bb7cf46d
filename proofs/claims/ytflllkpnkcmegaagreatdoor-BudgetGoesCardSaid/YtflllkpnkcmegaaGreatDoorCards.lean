/-
  DERIVED. GIVEN WITH THE SEED: THE CARDS: each row of YtflllkpnkcmegaaGreatDoorRows.lean that lists a variable, with what it lists TIED to the program's text (the seventh form; the later family's looks); each row that meets fmt, with fmt's text TOLD by the authors' own Lean function (tested against real Go, not proved from fmt's source: count such statements apart). THE CARD IS WHAT COUNTS. Prove the row's statement (the work); the ties are given (YtflllkpnkcmegaaGreatDoorTie.lean); close each card by the builder's one call (the guide's Derived/Test/ToyasCard.lean, 'card_holds'). Laid BY PROGRAM, IN A SANDBOX (cutbox-door.mjs). By AI agents, Wed Nov 11 2026. No macro, syntax, notation, axiom, sorry.
-/
import Derived.Test.YtflllkpnkcmegaaGreatDoorRows
import GoSem.ClaimSeven
namespace Go.Proofs.YtflllkpnkcmegaaGreatDoor
namespace Rows

/-- THE TIED CARD OF 'ballastlaw7.PodAny'. -/
def podAnyCard : Claim7 := { stood := { row := podAnyRow, standIns := [], harness := (true, "c2b6d0d859c90040bff100e93267df3371e235b467a68039977887b757871118"), looks := true }, kinds := [], alts := [], laidByText := true, laidKinds := [.data, .data, .data, .data, .sentinel, .sentinel, .pinned], laidTests := true, laidLooks := .later }
def PodAnyCardSaid : Prop := Claim7.holds Tryz.pinned (.plain (OpenSpec.ofChange podAnySpec)) podAnyCard

/-- THE TIED CARD OF 'ballastlaw7.PodRows'. -/
def podRowsCard : Claim7 := { stood := { row := podRowsRow, standIns := [], harness := (true, "c2b6d0d859c90040bff100e93267df3371e235b467a68039977887b757871118"), looks := true }, kinds := [], alts := [], laidByText := true, laidKinds := [.data, .data, .data, .data, .sentinel, .sentinel, .pinned], laidTests := true, laidLooks := .later }
def PodRowsCardSaid : Prop := Claim7.holds Tryz.pinned (.plain (OpenSpec.ofChange podRowsSpec)) podRowsCard

/-- THE TIED CARD OF 'ballastlaw7.PodOrder'. -/
def podOrderCard : Claim7 := { stood := { row := podOrderRow, standIns := [], harness := (true, "c2b6d0d859c90040bff100e93267df3371e235b467a68039977887b757871118"), looks := true }, kinds := [], alts := [], laidByText := true, laidKinds := [.data, .data, .data, .data, .sentinel, .sentinel, .pinned], laidTests := true, laidLooks := .later }
def PodOrderCardSaid : Prop := Claim7.holds Tryz.pinned (.plain (OpenSpec.ofChange podOrderSpec)) podOrderCard

/-- THE TIED CARD OF 'ballastlaw7.PodTells'. -/
def podTellsCard : Claim7 := { stood := { row := podTellsRow, standIns := [], harness := (true, "c2b6d0d859c90040bff100e93267df3371e235b467a68039977887b757871118"), looks := true }, kinds := [], alts := [], laidByText := true, laidKinds := [.data, .data, .data, .data, .sentinel, .sentinel, .pinned], laidTests := true, laidLooks := .later }
def PodTellsCardSaid : Prop := Claim7.holds Tryz.pinned (.plain (OpenSpec.ofChange podTellsSpec)) podTellsCard

/-- THE TIED CARD OF 'ballastlaw8.BudgetAny'. -/
def budgetAnyCard : Claim7 := { stood := { row := budgetAnyRow, standIns := [], harness := (true, "c2b6d0d859c90040bff100e93267df3371e235b467a68039977887b757871118"), looks := true }, kinds := [], alts := [], laidByText := true, laidKinds := [.data, .data, .data, .data, .sentinel, .sentinel, .pinned], laidTests := true, laidLooks := .later }
def BudgetAnyCardSaid : Prop := Claim7.holds Tryz.pinned (.plain (OpenSpec.ofChange budgetAnySpec)) budgetAnyCard

/-- THE TIED CARD OF 'ballastlaw8.BudgetGoes'. -/
def budgetGoesCard : Claim7 := { stood := { row := budgetGoesRow, standIns := [], harness := (true, "c2b6d0d859c90040bff100e93267df3371e235b467a68039977887b757871118"), looks := true }, kinds := [], alts := [], laidByText := true, laidKinds := [.data, .data, .data, .data, .sentinel, .sentinel, .pinned], laidTests := true, laidLooks := .later }
def BudgetGoesCardSaid : Prop := Claim7.holds Tryz.pinned (.plain (OpenSpec.ofChange budgetGoesSpec)) budgetGoesCard

/-- THE TIED CARD OF 'ballastlaw8.BudgetCounts'. -/
def budgetCountsCard : Claim7 := { stood := { row := budgetCountsRow, standIns := [], harness := (true, "c2b6d0d859c90040bff100e93267df3371e235b467a68039977887b757871118"), looks := true }, kinds := [], alts := [], laidByText := true, laidKinds := [.data, .data, .data, .data, .sentinel, .sentinel, .pinned], laidTests := true, laidLooks := .later }
def BudgetCountsCardSaid : Prop := Claim7.holds Tryz.pinned (.plain (OpenSpec.ofChange budgetCountsSpec)) budgetCountsCard

/-- THE SECOND FORM's CARD OF 'ballastlaw7.PodAny'. -/
def podAnyUptoCard : Claim7 := { stood := { row := podAnyUptoRow, standIns := [], harness := (true, "c2b6d0d859c90040bff100e93267df3371e235b467a68039977887b757871118"), looks := true }, kinds := [], alts := [], laidByText := true, laidKinds := [.data, .data, .data, .data, .sentinel, .sentinel, .pinned], laidTests := true, laidLooks := .later }
def PodAnyUptoCardSaid : Prop := Claim7.holds Tryz.pinned (.plain (OpenSpec.upto podAnySpec)) podAnyUptoCard

/-- THE SECOND FORM's CARD OF 'ballastlaw7.PodRows'. -/
def podRowsUptoCard : Claim7 := { stood := { row := podRowsUptoRow, standIns := [], harness := (true, "c2b6d0d859c90040bff100e93267df3371e235b467a68039977887b757871118"), looks := true }, kinds := [], alts := [], laidByText := true, laidKinds := [.data, .data, .data, .data, .sentinel, .sentinel, .pinned], laidTests := true, laidLooks := .later }
def PodRowsUptoCardSaid : Prop := Claim7.holds Tryz.pinned (.plain (OpenSpec.upto podRowsSpec)) podRowsUptoCard

/-- THE SECOND FORM's CARD OF 'ballastlaw7.PodOrder'. -/
def podOrderUptoCard : Claim7 := { stood := { row := podOrderUptoRow, standIns := [], harness := (true, "c2b6d0d859c90040bff100e93267df3371e235b467a68039977887b757871118"), looks := true }, kinds := [], alts := [], laidByText := true, laidKinds := [.data, .data, .data, .data, .sentinel, .sentinel, .pinned], laidTests := true, laidLooks := .later }
def PodOrderUptoCardSaid : Prop := Claim7.holds Tryz.pinned (.plain (OpenSpec.upto podOrderSpec)) podOrderUptoCard

/-- THE SECOND FORM's CARD OF 'ballastlaw7.PodTells'. -/
def podTellsUptoCard : Claim7 := { stood := { row := podTellsUptoRow, standIns := [], harness := (true, "c2b6d0d859c90040bff100e93267df3371e235b467a68039977887b757871118"), looks := true }, kinds := [], alts := [], laidByText := true, laidKinds := [.data, .data, .data, .data, .sentinel, .sentinel, .pinned], laidTests := true, laidLooks := .later }
def PodTellsUptoCardSaid : Prop := Claim7.holds Tryz.pinned (.plain (OpenSpec.upto podTellsSpec)) podTellsUptoCard

/-- THE SECOND FORM's CARD OF 'ballastlaw8.BudgetAny'. -/
def budgetAnyUptoCard : Claim7 := { stood := { row := budgetAnyUptoRow, standIns := [], harness := (true, "c2b6d0d859c90040bff100e93267df3371e235b467a68039977887b757871118"), looks := true }, kinds := [], alts := [], laidByText := true, laidKinds := [.data, .data, .data, .data, .sentinel, .sentinel, .pinned], laidTests := true, laidLooks := .later }
def BudgetAnyUptoCardSaid : Prop := Claim7.holds Tryz.pinned (.plain (OpenSpec.upto budgetAnySpec)) budgetAnyUptoCard

/-- THE SECOND FORM's CARD OF 'ballastlaw8.BudgetGoes'. -/
def budgetGoesUptoCard : Claim7 := { stood := { row := budgetGoesUptoRow, standIns := [], harness := (true, "c2b6d0d859c90040bff100e93267df3371e235b467a68039977887b757871118"), looks := true }, kinds := [], alts := [], laidByText := true, laidKinds := [.data, .data, .data, .data, .sentinel, .sentinel, .pinned], laidTests := true, laidLooks := .later }
def BudgetGoesUptoCardSaid : Prop := Claim7.holds Tryz.pinned (.plain (OpenSpec.upto budgetGoesSpec)) budgetGoesUptoCard

/-- THE SECOND FORM's CARD OF 'ballastlaw8.BudgetCounts'. -/
def budgetCountsUptoCard : Claim7 := { stood := { row := budgetCountsUptoRow, standIns := [], harness := (true, "c2b6d0d859c90040bff100e93267df3371e235b467a68039977887b757871118"), looks := true }, kinds := [], alts := [], laidByText := true, laidKinds := [.data, .data, .data, .data, .sentinel, .sentinel, .pinned], laidTests := true, laidLooks := .later }
def BudgetCountsUptoCardSaid : Prop := Claim7.holds Tryz.pinned (.plain (OpenSpec.upto budgetCountsSpec)) budgetCountsUptoCard
end Rows
end Go.Proofs.YtflllkpnkcmegaaGreatDoor
