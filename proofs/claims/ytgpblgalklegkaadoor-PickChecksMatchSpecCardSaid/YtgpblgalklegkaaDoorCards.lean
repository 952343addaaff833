/-
  DERIVED. GIVEN WITH THE SEED: THE CARDS: each row of YtgpblgalklegkaaDoorRows.lean that lists a variable, with what it lists TIED to the program's text (the seventh form; the later family's looks); each row that meets fmt, with fmt's text TOLD by the authors' own Lean function (tested against real Go, not proved from fmt's source: count such statements apart). THE CARD IS WHAT COUNTS. Prove the row's statement (the work); the ties are given (YtgpblgalklegkaaDoorTie.lean); close each card by the builder's one call (the guide's Derived/Test/ToyasCard.lean, 'card_holds'). Laid BY PROGRAM, IN A SANDBOX (cutbox-door.mjs). By AI agents, Wed Nov 11 2026. No macro, syntax, notation, axiom, sorry.
-/
import Derived.Test.YtgpblgalklegkaaDoorRows
import GoSem.ClaimSeven
namespace Go.Proofs.YtgpblgalklegkaaDoor
namespace Rows

/-- THE TIED CARD OF 'cycloramalaw4.PickChecksMatchSpec'. -/
def pickChecksMatchSpecCard : Claim7 := { stood := { row := pickChecksMatchSpecRow, standIns := [], harness := (true, "e8817cdc2348f4206aa89ba055e2268bd6d8d8a645910e2e175fad989fb39eb2"), looks := true }, kinds := [], alts := [], laidByText := true, laidKinds := [.data, .data, .data, .data, .data], laidTests := true, laidLooks := .later }
def PickChecksMatchSpecCardSaid : Prop := Claim7.holds Tryd.pinned (.plain (OpenSpec.ofChange pickChecksMatchSpecSpec)) pickChecksMatchSpecCard

/-- THE TIED CARD OF 'cycloramalaw4.PickParsesMatchSpec'. -/
def pickParsesMatchSpecCard : Claim7 := { stood := { row := pickParsesMatchSpecRow, standIns := [], harness := (true, "e8817cdc2348f4206aa89ba055e2268bd6d8d8a645910e2e175fad989fb39eb2"), looks := true }, kinds := [], alts := [], laidByText := true, laidKinds := [.data, .data, .data, .data, .sentinel, .sentinel, .data, .data, .pinned], laidTests := true, laidLooks := .later }
def PickParsesMatchSpecCardSaid : Prop := Claim7.holds Tryd.pinned (.plain (OpenSpec.ofChange pickParsesMatchSpecSpec)) pickParsesMatchSpecCard

/-- THE TIED CARD OF 'cycloramalaw4.PickTextsComeBack'. -/
def pickTextsComeBackCard : Claim7 := { stood := { row := pickTextsComeBackRow, standIns := [], harness := (true, "e8817cdc2348f4206aa89ba055e2268bd6d8d8a645910e2e175fad989fb39eb2"), looks := true }, kinds := [], alts := [], laidByText := true, laidKinds := [.data, .data, .data, .data, .data, .data, .pinned], laidTests := true, laidLooks := .later }
def PickTextsComeBackCardSaid : Prop := Claim7.holds Tryd.pinned (.plain (OpenSpec.ofChange pickTextsComeBackSpec)) pickTextsComeBackCard

/-- THE TIED CARD OF 'cycloramalaw4.PickGroupsMatchSpec'. -/
def pickGroupsMatchSpecCard : Claim7 := { stood := { row := pickGroupsMatchSpecRow, standIns := [], harness := (true, "e8817cdc2348f4206aa89ba055e2268bd6d8d8a645910e2e175fad989fb39eb2"), looks := true }, kinds := [], alts := [], laidByText := true, laidKinds := [.data], laidTests := true, laidLooks := .later }
def PickGroupsMatchSpecCardSaid : Prop := Claim7.holds Tryd.pinned (.plain (OpenSpec.ofChange pickGroupsMatchSpecSpec)) pickGroupsMatchSpecCard

/-- THE TIED CARD OF 'cycloramalaw4.PickPresetsKeepWhatIsRecorded'. -/
def pickPresetsKeepWhatIsRecordedCard : Claim7 := { stood := { row := pickPresetsKeepWhatIsRecordedRow, standIns := [], harness := (true, "e8817cdc2348f4206aa89ba055e2268bd6d8d8a645910e2e175fad989fb39eb2"), looks := true }, kinds := [], alts := [], laidByText := true, laidKinds := [.data, .pinned], laidTests := true, laidLooks := .later }
def PickPresetsKeepWhatIsRecordedCardSaid : Prop := Claim7.holds Tryd.pinned (.plain (OpenSpec.ofChange pickPresetsKeepWhatIsRecordedSpec)) pickPresetsKeepWhatIsRecordedCard

/-- THE SECOND FORM's CARD OF 'cycloramalaw4.PickChecksMatchSpec'. -/
def pickChecksMatchSpecUptoCard : Claim7 := { stood := { row := pickChecksMatchSpecUptoRow, standIns := [], harness := (true, "e8817cdc2348f4206aa89ba055e2268bd6d8d8a645910e2e175fad989fb39eb2"), looks := true }, kinds := [], alts := [], laidByText := true, laidKinds := [.data, .data, .data, .data, .data], laidTests := true, laidLooks := .later }
def PickChecksMatchSpecUptoCardSaid : Prop := Claim7.holds Tryd.pinned (.plain (OpenSpec.upto pickChecksMatchSpecSpec)) pickChecksMatchSpecUptoCard

/-- THE SECOND FORM's CARD OF 'cycloramalaw4.PickParsesMatchSpec'. -/
def pickParsesMatchSpecUptoCard : Claim7 := { stood := { row := pickParsesMatchSpecUptoRow, standIns := [], harness := (true, "e8817cdc2348f4206aa89ba055e2268bd6d8d8a645910e2e175fad989fb39eb2"), looks := true }, kinds := [], alts := [], laidByText := true, laidKinds := [.data, .data, .data, .data, .sentinel, .sentinel, .data, .data, .pinned], laidTests := true, laidLooks := .later }
def PickParsesMatchSpecUptoCardSaid : Prop := Claim7.holds Tryd.pinned (.plain (OpenSpec.upto pickParsesMatchSpecSpec)) pickParsesMatchSpecUptoCard

/-- THE SECOND FORM's CARD OF 'cycloramalaw4.PickTextsComeBack'. -/
def pickTextsComeBackUptoCard : Claim7 := { stood := { row := pickTextsComeBackUptoRow, standIns := [], harness := (true, "e8817cdc2348f4206aa89ba055e2268bd6d8d8a645910e2e175fad989fb39eb2"), looks := true }, kinds := [], alts := [], laidByText := true, laidKinds := [.data, .data, .data, .data, .data, .data, .pinned], laidTests := true, laidLooks := .later }
def PickTextsComeBackUptoCardSaid : Prop := Claim7.holds Tryd.pinned (.plain (OpenSpec.upto pickTextsComeBackSpec)) pickTextsComeBackUptoCard

/-- THE SECOND FORM's CARD OF 'cycloramalaw4.PickGroupsMatchSpec'. -/
def pickGroupsMatchSpecUptoCard : Claim7 := { stood := { row := pickGroupsMatchSpecUptoRow, standIns := [], harness := (true, "e8817cdc2348f4206aa89ba055e2268bd6d8d8a645910e2e175fad989fb39eb2"), looks := true }, kinds := [], alts := [], laidByText := true, laidKinds := [.data], laidTests := true, laidLooks := .later }
def PickGroupsMatchSpecUptoCardSaid : Prop := Claim7.holds Tryd.pinned (.plain (OpenSpec.upto pickGroupsMatchSpecSpec)) pickGroupsMatchSpecUptoCard

/-- THE SECOND FORM's CARD OF 'cycloramalaw4.PickPresetsKeepWhatIsRecorded'. -/
def pickPresetsKeepWhatIsRecordedUptoCard : Claim7 := { stood := { row := pickPresetsKeepWhatIsRecordedUptoRow, standIns := [], harness := (true, "e8817cdc2348f4206aa89ba055e2268bd6d8d8a645910e2e175fad989fb39eb2"), looks := true }, kinds := [], alts := [], laidByText := true, laidKinds := [.data, .pinned], laidTests := true, laidLooks := .later }
def PickPresetsKeepWhatIsRecordedUptoCardSaid : Prop := Claim7.holds Tryd.pinned (.plain (OpenSpec.upto pickPresetsKeepWhatIsRecordedSpec)) pickPresetsKeepWhatIsRecordedUptoCard
end Rows
end Go.Proofs.YtgpblgalklegkaaDoor
