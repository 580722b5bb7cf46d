/-
  DERIVED. GIVEN WITH THE SEED: THE CARDS: each row of YtmmjcomoabfmnaaDoorRows.lean that lists a variable, with what it lists TIED to the program's text (the seventh form; the later family's looks); each row that meets fmt, with fmt's text TOLD by the authors' own Lean function (tested against real Go, not proved from fmt's source: count such statements apart). THE CARD IS WHAT COUNTS. Prove the row's statement (the work); the ties are given (YtmmjcomoabfmnaaDoorTie.lean); close each card by the builder's one call (the guide's Derived/Test/ToyasCard.lean, 'card_holds'). Laid BY PROGRAM, IN A SANDBOX (cutbox-door.mjs). By AI agents, Wed Nov 11 2026. No macro, syntax, notation, axiom, sorry.
-/
import Derived.Test.YtmmjcomoabfmnaaDoorRows
import GoSem.ClaimSeven
namespace Go.Proofs.YtmmjcomoabfmnaaDoor
namespace Rows

/-- THE TIED CARD OF 'ballastlaw4.LabelAny'. -/
def labelAnyCard : Claim7 := { stood := { row := labelAnyRow, standIns := [], harness := (true, "efde7b10932d22fa018315746e9e85e26fa9de18de9aa898fd38fe8014ac3a0a"), looks := true }, kinds := [], alts := [], laidByText := true, laidKinds := [.data, .pinned], laidTests := true, laidLooks := .later }
def LabelAnyCardSaid : Prop := Claim7.holds Tryd.pinned (.plain (OpenSpec.ofChange labelAnySpec)) labelAnyCard

/-- THE TIED CARD OF 'ballastlaw4.LabelWords'. -/
def labelWordsCard : Claim7 := { stood := { row := labelWordsRow, standIns := [], harness := (true, "efde7b10932d22fa018315746e9e85e26fa9de18de9aa898fd38fe8014ac3a0a"), looks := true }, kinds := [], alts := [], laidByText := true, laidKinds := [.data, .pinned], laidTests := true, laidLooks := .later }
def LabelWordsCardSaid : Prop := Claim7.holds Tryd.pinned (.plain (OpenSpec.ofChange labelWordsSpec)) labelWordsCard

/-- THE TIED CARD OF 'ballastlaw4.LabelTerms'. -/
def labelTermsCard : Claim7 := { stood := { row := labelTermsRow, standIns := [], harness := (true, "efde7b10932d22fa018315746e9e85e26fa9de18de9aa898fd38fe8014ac3a0a"), looks := true }, kinds := [], alts := [], laidByText := true, laidKinds := [.data, .pinned], laidTests := true, laidLooks := .later }
def LabelTermsCardSaid : Prop := Claim7.holds Tryd.pinned (.plain (OpenSpec.ofChange labelTermsSpec)) labelTermsCard

/-- THE TIED CARD OF 'ballastlaw4.LabelMore'. -/
def labelMoreCard : Claim7 := { stood := { row := labelMoreRow, standIns := [], harness := (true, "efde7b10932d22fa018315746e9e85e26fa9de18de9aa898fd38fe8014ac3a0a"), looks := true }, kinds := [], alts := [], laidByText := true, laidKinds := [.data, .pinned], laidTests := true, laidLooks := .later }
def LabelMoreCardSaid : Prop := Claim7.holds Tryd.pinned (.plain (OpenSpec.ofChange labelMoreSpec)) labelMoreCard

/-- THE TIED CARD OF 'ballastlaw4.LabelNames'. -/
def labelNamesCard : Claim7 := { stood := { row := labelNamesRow, standIns := [], harness := (true, "efde7b10932d22fa018315746e9e85e26fa9de18de9aa898fd38fe8014ac3a0a"), looks := true }, kinds := [], alts := [], laidByText := true, laidKinds := [.data, .pinned], laidTests := true, laidLooks := .later }
def LabelNamesCardSaid : Prop := Claim7.holds Tryd.pinned (.plain (OpenSpec.ofChange labelNamesSpec)) labelNamesCard

/-- THE SECOND FORM's CARD OF 'ballastlaw4.LabelAny'. -/
def labelAnyUptoCard : Claim7 := { stood := { row := labelAnyUptoRow, standIns := [], harness := (true, "efde7b10932d22fa018315746e9e85e26fa9de18de9aa898fd38fe8014ac3a0a"), looks := true }, kinds := [], alts := [], laidByText := true, laidKinds := [.data, .pinned], laidTests := true, laidLooks := .later }
def LabelAnyUptoCardSaid : Prop := Claim7.holds Tryd.pinned (.plain (OpenSpec.upto labelAnySpec)) labelAnyUptoCard

/-- THE SECOND FORM's CARD OF 'ballastlaw4.LabelWords'. -/
def labelWordsUptoCard : Claim7 := { stood := { row := labelWordsUptoRow, standIns := [], harness := (true, "efde7b10932d22fa018315746e9e85e26fa9de18de9aa898fd38fe8014ac3a0a"), looks := true }, kinds := [], alts := [], laidByText := true, laidKinds := [.data, .pinned], laidTests := true, laidLooks := .later }
def LabelWordsUptoCardSaid : Prop := Claim7.holds Tryd.pinned (.plain (OpenSpec.upto labelWordsSpec)) labelWordsUptoCard

/-- THE SECOND FORM's CARD OF 'ballastlaw4.LabelTerms'. -/
def labelTermsUptoCard : Claim7 := { stood := { row := labelTermsUptoRow, standIns := [], harness := (true, "efde7b10932d22fa018315746e9e85e26fa9de18de9aa898fd38fe8014ac3a0a"), looks := true }, kinds := [], alts := [], laidByText := true, laidKinds := [.data, .pinned], laidTests := true, laidLooks := .later }
def LabelTermsUptoCardSaid : Prop := Claim7.holds Tryd.pinned (.plain (OpenSpec.upto labelTermsSpec)) labelTermsUptoCard

/-- THE SECOND FORM's CARD OF 'ballastlaw4.LabelMore'. -/
def labelMoreUptoCard : Claim7 := { stood := { row := labelMoreUptoRow, standIns := [], harness := (true, "efde7b10932d22fa018315746e9e85e26fa9de18de9aa898fd38fe8014ac3a0a"), looks := true }, kinds := [], alts := [], laidByText := true, laidKinds := [.data, .pinned], laidTests := true, laidLooks := .later }
def LabelMoreUptoCardSaid : Prop := Claim7.holds Tryd.pinned (.plain (OpenSpec.upto labelMoreSpec)) labelMoreUptoCard

/-- THE SECOND FORM's CARD OF 'ballastlaw4.LabelNames'. -/
def labelNamesUptoCard : Claim7 := { stood := { row := labelNamesUptoRow, standIns := [], harness := (true, "efde7b10932d22fa018315746e9e85e26fa9de18de9aa898fd38fe8014ac3a0a"), looks := true }, kinds := [], alts := [], laidByText := true, laidKinds := [.data, .pinned], laidTests := true, laidLooks := .later }
def LabelNamesUptoCardSaid : Prop := Claim7.holds Tryd.pinned (.plain (OpenSpec.upto labelNamesSpec)) labelNamesUptoCard
end Rows
end Go.Proofs.YtmmjcomoabfmnaaDoor
