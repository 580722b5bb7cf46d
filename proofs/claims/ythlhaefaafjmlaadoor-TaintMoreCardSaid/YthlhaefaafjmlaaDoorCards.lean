/-
  DERIVED. GIVEN WITH THE SEED: THE CARDS: each row of YthlhaefaafjmlaaDoorRows.lean that lists a variable, with what it lists TIED to the program's text (the seventh form; the later family's looks); each row that meets fmt, with fmt's text TOLD by the authors' own Lean function (tested against real Go, not proved from fmt's source: count such statements apart). THE CARD IS WHAT COUNTS. Prove the row's statement (the work); the ties are given (YthlhaefaafjmlaaDoorTie.lean); close each card by the builder's one call (the guide's Derived/Test/ToyasCard.lean, 'card_holds'). Laid BY PROGRAM, IN A SANDBOX (cutbox-door.mjs). By AI agents, Wed Nov 11 2026. No macro, syntax, notation, axiom, sorry.
-/
import Derived.Test.YthlhaefaafjmlaaDoorRows
import GoSem.ClaimSeven
namespace Go.Proofs.YthlhaefaafjmlaaDoor
namespace Rows

/-- THE TIED CARD OF 'ballastlaw5.TaintAny'. -/
def taintAnyCard : Claim7 := { stood := { row := taintAnyRow, standIns := [], harness := (true, "4ca429300353552ad84ada4131add359f30c5f6c562d588ac5eb2eff35a2e28e"), looks := true }, kinds := [], alts := [], laidByText := true, laidKinds := [.data, .pinned], laidTests := true, laidLooks := .later }
def TaintAnyCardSaid : Prop := Claim7.holds Tryd.pinned (.plain (OpenSpec.ofChange taintAnySpec)) taintAnyCard

/-- THE TIED CARD OF 'ballastlaw5.TaintWords'. -/
def taintWordsCard : Claim7 := { stood := { row := taintWordsRow, standIns := [], harness := (true, "4ca429300353552ad84ada4131add359f30c5f6c562d588ac5eb2eff35a2e28e"), looks := true }, kinds := [], alts := [], laidByText := true, laidKinds := [.data, .pinned], laidTests := true, laidLooks := .later }
def TaintWordsCardSaid : Prop := Claim7.holds Tryd.pinned (.plain (OpenSpec.ofChange taintWordsSpec)) taintWordsCard

/-- THE TIED CARD OF 'ballastlaw5.TaintMore'. -/
def taintMoreCard : Claim7 := { stood := { row := taintMoreRow, standIns := [], harness := (true, "4ca429300353552ad84ada4131add359f30c5f6c562d588ac5eb2eff35a2e28e"), looks := true }, kinds := [], alts := [], laidByText := true, laidKinds := [.data, .pinned], laidTests := true, laidLooks := .later }
def TaintMoreCardSaid : Prop := Claim7.holds Tryd.pinned (.plain (OpenSpec.ofChange taintMoreSpec)) taintMoreCard

/-- THE TIED CARD OF 'ballastlaw5.TaintOrder'. -/
def taintOrderCard : Claim7 := { stood := { row := taintOrderRow, standIns := [], harness := (true, "4ca429300353552ad84ada4131add359f30c5f6c562d588ac5eb2eff35a2e28e"), looks := true }, kinds := [], alts := [], laidByText := true, laidKinds := [.data, .pinned], laidTests := true, laidLooks := .later }
def TaintOrderCardSaid : Prop := Claim7.holds Tryd.pinned (.plain (OpenSpec.ofChange taintOrderSpec)) taintOrderCard

/-- THE TIED CARD OF 'ballastlaw5.TaintEach'. -/
def taintEachCard : Claim7 := { stood := { row := taintEachRow, standIns := [], harness := (true, "4ca429300353552ad84ada4131add359f30c5f6c562d588ac5eb2eff35a2e28e"), looks := true }, kinds := [], alts := [], laidByText := true, laidKinds := [.data, .pinned], laidTests := true, laidLooks := .later }
def TaintEachCardSaid : Prop := Claim7.holds Tryd.pinned (.plain (OpenSpec.ofChange taintEachSpec)) taintEachCard

/-- THE SECOND FORM's CARD OF 'ballastlaw5.TaintAny'. -/
def taintAnyUptoCard : Claim7 := { stood := { row := taintAnyUptoRow, standIns := [], harness := (true, "4ca429300353552ad84ada4131add359f30c5f6c562d588ac5eb2eff35a2e28e"), looks := true }, kinds := [], alts := [], laidByText := true, laidKinds := [.data, .pinned], laidTests := true, laidLooks := .later }
def TaintAnyUptoCardSaid : Prop := Claim7.holds Tryd.pinned (.plain (OpenSpec.upto taintAnySpec)) taintAnyUptoCard

/-- THE SECOND FORM's CARD OF 'ballastlaw5.TaintWords'. -/
def taintWordsUptoCard : Claim7 := { stood := { row := taintWordsUptoRow, standIns := [], harness := (true, "4ca429300353552ad84ada4131add359f30c5f6c562d588ac5eb2eff35a2e28e"), looks := true }, kinds := [], alts := [], laidByText := true, laidKinds := [.data, .pinned], laidTests := true, laidLooks := .later }
def TaintWordsUptoCardSaid : Prop := Claim7.holds Tryd.pinned (.plain (OpenSpec.upto taintWordsSpec)) taintWordsUptoCard

/-- THE SECOND FORM's CARD OF 'ballastlaw5.TaintMore'. -/
def taintMoreUptoCard : Claim7 := { stood := { row := taintMoreUptoRow, standIns := [], harness := (true, "4ca429300353552ad84ada4131add359f30c5f6c562d588ac5eb2eff35a2e28e"), looks := true }, kinds := [], alts := [], laidByText := true, laidKinds := [.data, .pinned], laidTests := true, laidLooks := .later }
def TaintMoreUptoCardSaid : Prop := Claim7.holds Tryd.pinned (.plain (OpenSpec.upto taintMoreSpec)) taintMoreUptoCard

/-- THE SECOND FORM's CARD OF 'ballastlaw5.TaintOrder'. -/
def taintOrderUptoCard : Claim7 := { stood := { row := taintOrderUptoRow, standIns := [], harness := (true, "4ca429300353552ad84ada4131add359f30c5f6c562d588ac5eb2eff35a2e28e"), looks := true }, kinds := [], alts := [], laidByText := true, laidKinds := [.data, .pinned], laidTests := true, laidLooks := .later }
def TaintOrderUptoCardSaid : Prop := Claim7.holds Tryd.pinned (.plain (OpenSpec.upto taintOrderSpec)) taintOrderUptoCard

/-- THE SECOND FORM's CARD OF 'ballastlaw5.TaintEach'. -/
def taintEachUptoCard : Claim7 := { stood := { row := taintEachUptoRow, standIns := [], harness := (true, "4ca429300353552ad84ada4131add359f30c5f6c562d588ac5eb2eff35a2e28e"), looks := true }, kinds := [], alts := [], laidByText := true, laidKinds := [.data, .pinned], laidTests := true, laidLooks := .later }
def TaintEachUptoCardSaid : Prop := Claim7.holds Tryd.pinned (.plain (OpenSpec.upto taintEachSpec)) taintEachUptoCard
end Rows
end Go.Proofs.YthlhaefaafjmlaaDoor
