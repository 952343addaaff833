/-
  DERIVED. GIVEN WITH THE SEED: THE CARDS: each row of YtfamnaekelmkpaaDoorRows.lean that lists a variable, with what it lists TIED to the program's text (the seventh form; the later family's looks); each row that meets fmt, with fmt's text TOLD by the authors' own Lean function (tested against real Go, not proved from fmt's source: count such statements apart). THE CARD IS WHAT COUNTS. Prove the row's statement (the work); the ties are given (YtfamnaekelmkpaaDoorTie.lean); close each card by the builder's one call (the guide's Derived/Test/ToyasCard.lean, 'card_holds'). Laid BY PROGRAM, IN A SANDBOX (cutbox-door.mjs). By AI agents, Wed Nov 11 2026. No macro, syntax, notation, axiom, sorry.
-/
import Derived.Test.YtfamnaekelmkpaaDoorRows
import GoSem.ClaimSeven
namespace Go.Proofs.YtfamnaekelmkpaaDoor
namespace Rows

/-- THE TIED CARD OF 'cycloramalaw3.ColourTextsMatchSpec'. -/
def colourTextsMatchSpecCard : Claim7 := { stood := { row := colourTextsMatchSpecRow, standIns := [], harness := (true, "65fd0f82d930e73ad38cfb950db00a2ce35f0a917b8037c028401d88688da543"), looks := true }, kinds := [], alts := [], laidByText := true, laidKinds := [.data, .data, .data, .sentinel, .sentinel], laidTests := true, laidLooks := .later }
def ColourTextsMatchSpecCardSaid : Prop := Claim7.holds Tryd.pinned (.plain (OpenSpec.ofChange colourTextsMatchSpecSpec)) colourTextsMatchSpecCard

/-- THE TIED CARD OF 'cycloramalaw3.ColourTextsComeBack'. -/
def colourTextsComeBackCard : Claim7 := { stood := { row := colourTextsComeBackRow, standIns := [], harness := (true, "65fd0f82d930e73ad38cfb950db00a2ce35f0a917b8037c028401d88688da543"), looks := true }, kinds := [], alts := [], laidByText := true, laidKinds := [.data, .data, .data, .sentinel, .sentinel], laidTests := true, laidLooks := .later }
def ColourTextsComeBackCardSaid : Prop := Claim7.holds Tryd.pinned (.plain (OpenSpec.ofChange colourTextsComeBackSpec)) colourTextsComeBackCard

/-- THE TIED CARD OF 'cycloramalaw3.ColourBooksComeBack'. -/
def colourBooksComeBackCard : Claim7 := { stood := { row := colourBooksComeBackRow, standIns := [], harness := (true, "65fd0f82d930e73ad38cfb950db00a2ce35f0a917b8037c028401d88688da543"), looks := true }, kinds := [], alts := [], laidByText := true, laidKinds := [.data, .data, .data, .data, .sentinel, .sentinel, .pinned], laidTests := true, laidLooks := .later }
def ColourBooksComeBackCardSaid : Prop := Claim7.holds Tryd.pinned (.plain (OpenSpec.ofChange colourBooksComeBackSpec)) colourBooksComeBackCard

/-- THE TIED CARD OF 'cycloramalaw3.ColourNearestMatchesSpec'. -/
def colourNearestMatchesSpecCard : Claim7 := { stood := { row := colourNearestMatchesSpecRow, standIns := [], harness := (true, "65fd0f82d930e73ad38cfb950db00a2ce35f0a917b8037c028401d88688da543"), looks := true }, kinds := [], alts := [], laidByText := true, laidKinds := [.data, .pinned], laidTests := true, laidLooks := .later }
def ColourNearestMatchesSpecCardSaid : Prop := Claim7.holds Tryd.pinned (.plain (OpenSpec.ofChange colourNearestMatchesSpecSpec)) colourNearestMatchesSpecCard

/-- THE TIED CARD OF 'cycloramalaw3.ColourNearestAreNearest'. -/
def colourNearestAreNearestCard : Claim7 := { stood := { row := colourNearestAreNearestRow, standIns := [], harness := (true, "65fd0f82d930e73ad38cfb950db00a2ce35f0a917b8037c028401d88688da543"), looks := true }, kinds := [], alts := [], laidByText := true, laidKinds := [.data, .pinned], laidTests := true, laidLooks := .later }
def ColourNearestAreNearestCardSaid : Prop := Claim7.holds Tryd.pinned (.plain (OpenSpec.ofChange colourNearestAreNearestSpec)) colourNearestAreNearestCard

/-- THE SECOND FORM's CARD OF 'cycloramalaw3.ColourTextsMatchSpec'. -/
def colourTextsMatchSpecUptoCard : Claim7 := { stood := { row := colourTextsMatchSpecUptoRow, standIns := [], harness := (true, "65fd0f82d930e73ad38cfb950db00a2ce35f0a917b8037c028401d88688da543"), looks := true }, kinds := [], alts := [], laidByText := true, laidKinds := [.data, .data, .data, .sentinel, .sentinel], laidTests := true, laidLooks := .later }
def ColourTextsMatchSpecUptoCardSaid : Prop := Claim7.holds Tryd.pinned (.plain (OpenSpec.upto colourTextsMatchSpecSpec)) colourTextsMatchSpecUptoCard

/-- THE SECOND FORM's CARD OF 'cycloramalaw3.ColourTextsComeBack'. -/
def colourTextsComeBackUptoCard : Claim7 := { stood := { row := colourTextsComeBackUptoRow, standIns := [], harness := (true, "65fd0f82d930e73ad38cfb950db00a2ce35f0a917b8037c028401d88688da543"), looks := true }, kinds := [], alts := [], laidByText := true, laidKinds := [.data, .data, .data, .sentinel, .sentinel], laidTests := true, laidLooks := .later }
def ColourTextsComeBackUptoCardSaid : Prop := Claim7.holds Tryd.pinned (.plain (OpenSpec.upto colourTextsComeBackSpec)) colourTextsComeBackUptoCard

/-- THE SECOND FORM's CARD OF 'cycloramalaw3.ColourBooksComeBack'. -/
def colourBooksComeBackUptoCard : Claim7 := { stood := { row := colourBooksComeBackUptoRow, standIns := [], harness := (true, "65fd0f82d930e73ad38cfb950db00a2ce35f0a917b8037c028401d88688da543"), looks := true }, kinds := [], alts := [], laidByText := true, laidKinds := [.data, .data, .data, .data, .sentinel, .sentinel, .pinned], laidTests := true, laidLooks := .later }
def ColourBooksComeBackUptoCardSaid : Prop := Claim7.holds Tryd.pinned (.plain (OpenSpec.upto colourBooksComeBackSpec)) colourBooksComeBackUptoCard

/-- THE SECOND FORM's CARD OF 'cycloramalaw3.ColourNearestMatchesSpec'. -/
def colourNearestMatchesSpecUptoCard : Claim7 := { stood := { row := colourNearestMatchesSpecUptoRow, standIns := [], harness := (true, "65fd0f82d930e73ad38cfb950db00a2ce35f0a917b8037c028401d88688da543"), looks := true }, kinds := [], alts := [], laidByText := true, laidKinds := [.data, .pinned], laidTests := true, laidLooks := .later }
def ColourNearestMatchesSpecUptoCardSaid : Prop := Claim7.holds Tryd.pinned (.plain (OpenSpec.upto colourNearestMatchesSpecSpec)) colourNearestMatchesSpecUptoCard

/-- THE SECOND FORM's CARD OF 'cycloramalaw3.ColourNearestAreNearest'. -/
def colourNearestAreNearestUptoCard : Claim7 := { stood := { row := colourNearestAreNearestUptoRow, standIns := [], harness := (true, "65fd0f82d930e73ad38cfb950db00a2ce35f0a917b8037c028401d88688da543"), looks := true }, kinds := [], alts := [], laidByText := true, laidKinds := [.data, .pinned], laidTests := true, laidLooks := .later }
def ColourNearestAreNearestUptoCardSaid : Prop := Claim7.holds Tryd.pinned (.plain (OpenSpec.upto colourNearestAreNearestSpec)) colourNearestAreNearestUptoCard
end Rows
end Go.Proofs.YtfamnaekelmkpaaDoor
