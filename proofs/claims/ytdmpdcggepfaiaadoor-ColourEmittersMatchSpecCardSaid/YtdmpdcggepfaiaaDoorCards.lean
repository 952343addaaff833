/-
  DERIVED. GIVEN WITH THE SEED: THE CARDS: each row of YtdmpdcggepfaiaaDoorRows.lean that lists a variable, with what it lists TIED to the program's text (the seventh form; the later family's looks); each row that meets fmt, with fmt's text TOLD by the authors' own Lean function (tested against real Go, not proved from fmt's source: count such statements apart). THE CARD IS WHAT COUNTS. Prove the row's statement (the work); the ties are given (YtdmpdcggepfaiaaDoorTie.lean); close each card by the builder's one call (the guide's Derived/Test/ToyasCard.lean, 'card_holds'). Laid BY PROGRAM, IN A SANDBOX (cutbox-door.mjs). By AI agents, Wed Nov 11 2026. No macro, syntax, notation, axiom, sorry.
-/
import Derived.Test.YtdmpdcggepfaiaaDoorRows
import GoSem.ClaimSeven
namespace Go.Proofs.YtdmpdcggepfaiaaDoor
namespace Rows

/-- THE TIED CARD OF 'cycloramalaw3.ColourTextsMatchSpec'. -/
def colourTextsMatchSpecCard : Claim7 := { stood := { row := colourTextsMatchSpecRow, standIns := [], harness := (true, "b3e2055a5b77432e26773dce101c4a1d69065d20e0b59a90875a8130fbd1754b"), looks := true }, kinds := [], alts := [], laidByText := true, laidKinds := [.data, .data, .data, .sentinel, .sentinel], laidTests := true, laidLooks := .later }
def ColourTextsMatchSpecCardSaid : Prop := Claim7.holds Tryd.pinned (.plain (OpenSpec.ofChange colourTextsMatchSpecSpec)) colourTextsMatchSpecCard

/-- THE TIED CARD OF 'cycloramalaw3.ColourTextsComeBack'. -/
def colourTextsComeBackCard : Claim7 := { stood := { row := colourTextsComeBackRow, standIns := [], harness := (true, "b3e2055a5b77432e26773dce101c4a1d69065d20e0b59a90875a8130fbd1754b"), looks := true }, kinds := [], alts := [], laidByText := true, laidKinds := [.data, .data, .data, .sentinel, .sentinel], laidTests := true, laidLooks := .later }
def ColourTextsComeBackCardSaid : Prop := Claim7.holds Tryd.pinned (.plain (OpenSpec.ofChange colourTextsComeBackSpec)) colourTextsComeBackCard

/-- THE TIED CARD OF 'cycloramalaw3.ColourBooksComeBack'. -/
def colourBooksComeBackCard : Claim7 := { stood := { row := colourBooksComeBackRow, standIns := [], harness := (true, "b3e2055a5b77432e26773dce101c4a1d69065d20e0b59a90875a8130fbd1754b"), looks := true }, kinds := [], alts := [], laidByText := true, laidKinds := [.data, .data, .data, .data, .sentinel, .sentinel, .pinned], laidTests := true, laidLooks := .later }
def ColourBooksComeBackCardSaid : Prop := Claim7.holds Tryd.pinned (.plain (OpenSpec.ofChange colourBooksComeBackSpec)) colourBooksComeBackCard

/-- THE TIED CARD OF 'cycloramalaw3.ColourNearestMatchesSpec'. -/
def colourNearestMatchesSpecCard : Claim7 := { stood := { row := colourNearestMatchesSpecRow, standIns := [], harness := (true, "b3e2055a5b77432e26773dce101c4a1d69065d20e0b59a90875a8130fbd1754b"), looks := true }, kinds := [], alts := [], laidByText := true, laidKinds := [.data, .pinned], laidTests := true, laidLooks := .later }
def ColourNearestMatchesSpecCardSaid : Prop := Claim7.holds Tryd.pinned (.plain (OpenSpec.ofChange colourNearestMatchesSpecSpec)) colourNearestMatchesSpecCard

/-- THE TIED CARD OF 'cycloramalaw3.ColourNearestAreNearest'. -/
def colourNearestAreNearestCard : Claim7 := { stood := { row := colourNearestAreNearestRow, standIns := [], harness := (true, "b3e2055a5b77432e26773dce101c4a1d69065d20e0b59a90875a8130fbd1754b"), looks := true }, kinds := [], alts := [], laidByText := true, laidKinds := [.data, .pinned], laidTests := true, laidLooks := .later }
def ColourNearestAreNearestCardSaid : Prop := Claim7.holds Tryd.pinned (.plain (OpenSpec.ofChange colourNearestAreNearestSpec)) colourNearestAreNearestCard

/-- THE TIED CARD OF 'cycloramalaw3.ColourEmittersMatchSpec'. -/
def colourEmittersMatchSpecCard : Claim7 := { stood := { row := colourEmittersMatchSpecRow, standIns := [], harness := (true, "b3e2055a5b77432e26773dce101c4a1d69065d20e0b59a90875a8130fbd1754b"), looks := true }, kinds := [], alts := [], laidByText := true, laidKinds := [.data, .pinned], laidTests := true, laidLooks := .later }
def ColourEmittersMatchSpecCardSaid : Prop := Claim7.holds Tryd.pinned (.plain (OpenSpec.ofChange colourEmittersMatchSpecSpec)) colourEmittersMatchSpecCard

/-- THE TIED CARD OF 'cycloramalaw3.ColourDrivesStayWithin'. -/
def colourDrivesStayWithinCard : Claim7 := { stood := { row := colourDrivesStayWithinRow, standIns := [], harness := (true, "b3e2055a5b77432e26773dce101c4a1d69065d20e0b59a90875a8130fbd1754b"), looks := true }, kinds := [], alts := [], laidByText := true, laidKinds := [.data, .pinned], laidTests := true, laidLooks := .later }
def ColourDrivesStayWithinCardSaid : Prop := Claim7.holds Tryd.pinned (.plain (OpenSpec.ofChange colourDrivesStayWithinSpec)) colourDrivesStayWithinCard

/-- THE SECOND FORM's CARD OF 'cycloramalaw3.ColourTextsMatchSpec'. -/
def colourTextsMatchSpecUptoCard : Claim7 := { stood := { row := colourTextsMatchSpecUptoRow, standIns := [], harness := (true, "b3e2055a5b77432e26773dce101c4a1d69065d20e0b59a90875a8130fbd1754b"), looks := true }, kinds := [], alts := [], laidByText := true, laidKinds := [.data, .data, .data, .sentinel, .sentinel], laidTests := true, laidLooks := .later }
def ColourTextsMatchSpecUptoCardSaid : Prop := Claim7.holds Tryd.pinned (.plain (OpenSpec.upto colourTextsMatchSpecSpec)) colourTextsMatchSpecUptoCard

/-- THE SECOND FORM's CARD OF 'cycloramalaw3.ColourTextsComeBack'. -/
def colourTextsComeBackUptoCard : Claim7 := { stood := { row := colourTextsComeBackUptoRow, standIns := [], harness := (true, "b3e2055a5b77432e26773dce101c4a1d69065d20e0b59a90875a8130fbd1754b"), looks := true }, kinds := [], alts := [], laidByText := true, laidKinds := [.data, .data, .data, .sentinel, .sentinel], laidTests := true, laidLooks := .later }
def ColourTextsComeBackUptoCardSaid : Prop := Claim7.holds Tryd.pinned (.plain (OpenSpec.upto colourTextsComeBackSpec)) colourTextsComeBackUptoCard

/-- THE SECOND FORM's CARD OF 'cycloramalaw3.ColourBooksComeBack'. -/
def colourBooksComeBackUptoCard : Claim7 := { stood := { row := colourBooksComeBackUptoRow, standIns := [], harness := (true, "b3e2055a5b77432e26773dce101c4a1d69065d20e0b59a90875a8130fbd1754b"), looks := true }, kinds := [], alts := [], laidByText := true, laidKinds := [.data, .data, .data, .data, .sentinel, .sentinel, .pinned], laidTests := true, laidLooks := .later }
def ColourBooksComeBackUptoCardSaid : Prop := Claim7.holds Tryd.pinned (.plain (OpenSpec.upto colourBooksComeBackSpec)) colourBooksComeBackUptoCard

/-- THE SECOND FORM's CARD OF 'cycloramalaw3.ColourNearestMatchesSpec'. -/
def colourNearestMatchesSpecUptoCard : Claim7 := { stood := { row := colourNearestMatchesSpecUptoRow, standIns := [], harness := (true, "b3e2055a5b77432e26773dce101c4a1d69065d20e0b59a90875a8130fbd1754b"), looks := true }, kinds := [], alts := [], laidByText := true, laidKinds := [.data, .pinned], laidTests := true, laidLooks := .later }
def ColourNearestMatchesSpecUptoCardSaid : Prop := Claim7.holds Tryd.pinned (.plain (OpenSpec.upto colourNearestMatchesSpecSpec)) colourNearestMatchesSpecUptoCard

/-- THE SECOND FORM's CARD OF 'cycloramalaw3.ColourNearestAreNearest'. -/
def colourNearestAreNearestUptoCard : Claim7 := { stood := { row := colourNearestAreNearestUptoRow, standIns := [], harness := (true, "b3e2055a5b77432e26773dce101c4a1d69065d20e0b59a90875a8130fbd1754b"), looks := true }, kinds := [], alts := [], laidByText := true, laidKinds := [.data, .pinned], laidTests := true, laidLooks := .later }
def ColourNearestAreNearestUptoCardSaid : Prop := Claim7.holds Tryd.pinned (.plain (OpenSpec.upto colourNearestAreNearestSpec)) colourNearestAreNearestUptoCard

/-- THE SECOND FORM's CARD OF 'cycloramalaw3.ColourEmittersMatchSpec'. -/
def colourEmittersMatchSpecUptoCard : Claim7 := { stood := { row := colourEmittersMatchSpecUptoRow, standIns := [], harness := (true, "b3e2055a5b77432e26773dce101c4a1d69065d20e0b59a90875a8130fbd1754b"), looks := true }, kinds := [], alts := [], laidByText := true, laidKinds := [.data, .pinned], laidTests := true, laidLooks := .later }
def ColourEmittersMatchSpecUptoCardSaid : Prop := Claim7.holds Tryd.pinned (.plain (OpenSpec.upto colourEmittersMatchSpecSpec)) colourEmittersMatchSpecUptoCard

/-- THE SECOND FORM's CARD OF 'cycloramalaw3.ColourDrivesStayWithin'. -/
def colourDrivesStayWithinUptoCard : Claim7 := { stood := { row := colourDrivesStayWithinUptoRow, standIns := [], harness := (true, "b3e2055a5b77432e26773dce101c4a1d69065d20e0b59a90875a8130fbd1754b"), looks := true }, kinds := [], alts := [], laidByText := true, laidKinds := [.data, .pinned], laidTests := true, laidLooks := .later }
def ColourDrivesStayWithinUptoCardSaid : Prop := Claim7.holds Tryd.pinned (.plain (OpenSpec.upto colourDrivesStayWithinSpec)) colourDrivesStayWithinUptoCard
end Rows
end Go.Proofs.YtdmpdcggepfaiaaDoor
