/-
  DERIVED. GIVEN WITH THE SEED: THE CARDS: each row of YtcidldomnifdeaaDoorRows.lean that lists a variable, with what it lists TIED to the program's text (the seventh form; the later family's looks); each row that meets fmt, with fmt's text TOLD by the authors' own Lean function (tested against real Go, not proved from fmt's source: count such statements apart). THE CARD IS WHAT COUNTS. Prove the row's statement (the work); the ties are given (YtcidldomnifdeaaDoorTie.lean); close each card by the builder's one call (the guide's Derived/Test/ToyasCard.lean, 'card_holds'). Laid BY PROGRAM, IN A SANDBOX (cutbox-door.mjs). By AI agents, Wed Nov 11 2026. No macro, syntax, notation, axiom, sorry.
-/
import Derived.Test.YtcidldomnifdeaaDoorRows
import GoSem.ClaimSeven
namespace Go.Proofs.YtcidldomnifdeaaDoor
namespace Rows

/-- THE TIED CARD OF 'cycloramalaw2.FixtureLibrariesMatchSpec'. -/
def fixtureLibrariesMatchSpecCard : Claim7 := { stood := { row := fixtureLibrariesMatchSpecRow, standIns := [], harness := (true, "e183c2e162d836435c9cf36f9426f4060dc5f9a21fd5f8fc1180efa6c59ec8d1"), looks := false }, kinds := [], alts := [], laidByText := true, laidKinds := [.data, .data, .data, .data, .data, .pinned], laidTests := true, laidLooks := .later }
def FixtureLibrariesMatchSpecCardSaid : Prop := Claim7.holds Tryd.pinned (.plain (OpenSpec.ofChange fixtureLibrariesMatchSpecSpec)) fixtureLibrariesMatchSpecCard

/-- THE TIED CARD OF 'cycloramalaw2.FixtureRigsMatchSpec'. -/
def fixtureRigsMatchSpecCard : Claim7 := { stood := { row := fixtureRigsMatchSpecRow, standIns := [], harness := (true, "e183c2e162d836435c9cf36f9426f4060dc5f9a21fd5f8fc1180efa6c59ec8d1"), looks := false }, kinds := [], alts := [], laidByText := true, laidKinds := [.data, .data, .data, .data, .pinned], laidTests := true, laidLooks := .later }
def FixtureRigsMatchSpecCardSaid : Prop := Claim7.holds Tryd.pinned (.plain (OpenSpec.ofChange fixtureRigsMatchSpecSpec)) fixtureRigsMatchSpecCard

/-- THE TIED CARD OF 'cycloramalaw2.FixturePatchesComeBack'. -/
def fixturePatchesComeBackCard : Claim7 := { stood := { row := fixturePatchesComeBackRow, standIns := [], harness := (true, "e183c2e162d836435c9cf36f9426f4060dc5f9a21fd5f8fc1180efa6c59ec8d1"), looks := false }, kinds := [], alts := [], laidByText := true, laidKinds := [.data, .data, .data, .data, .pinned], laidTests := true, laidLooks := .later }
def FixturePatchesComeBackCardSaid : Prop := Claim7.holds Tryd.pinned (.plain (OpenSpec.ofChange fixturePatchesComeBackSpec)) fixturePatchesComeBackCard

/-- THE SECOND FORM's CARD OF 'cycloramalaw2.FixtureLibrariesMatchSpec'. -/
def fixtureLibrariesMatchSpecUptoCard : Claim7 := { stood := { row := fixtureLibrariesMatchSpecUptoRow, standIns := [], harness := (true, "e183c2e162d836435c9cf36f9426f4060dc5f9a21fd5f8fc1180efa6c59ec8d1"), looks := false }, kinds := [], alts := [], laidByText := true, laidKinds := [.data, .data, .data, .data, .data, .pinned], laidTests := true, laidLooks := .later }
def FixtureLibrariesMatchSpecUptoCardSaid : Prop := Claim7.holds Tryd.pinned (.plain (OpenSpec.upto fixtureLibrariesMatchSpecSpec)) fixtureLibrariesMatchSpecUptoCard

/-- THE SECOND FORM's CARD OF 'cycloramalaw2.FixtureRigsMatchSpec'. -/
def fixtureRigsMatchSpecUptoCard : Claim7 := { stood := { row := fixtureRigsMatchSpecUptoRow, standIns := [], harness := (true, "e183c2e162d836435c9cf36f9426f4060dc5f9a21fd5f8fc1180efa6c59ec8d1"), looks := false }, kinds := [], alts := [], laidByText := true, laidKinds := [.data, .data, .data, .data, .pinned], laidTests := true, laidLooks := .later }
def FixtureRigsMatchSpecUptoCardSaid : Prop := Claim7.holds Tryd.pinned (.plain (OpenSpec.upto fixtureRigsMatchSpecSpec)) fixtureRigsMatchSpecUptoCard

/-- THE SECOND FORM's CARD OF 'cycloramalaw2.FixturePatchesComeBack'. -/
def fixturePatchesComeBackUptoCard : Claim7 := { stood := { row := fixturePatchesComeBackUptoRow, standIns := [], harness := (true, "e183c2e162d836435c9cf36f9426f4060dc5f9a21fd5f8fc1180efa6c59ec8d1"), looks := false }, kinds := [], alts := [], laidByText := true, laidKinds := [.data, .data, .data, .data, .pinned], laidTests := true, laidLooks := .later }
def FixturePatchesComeBackUptoCardSaid : Prop := Claim7.holds Tryd.pinned (.plain (OpenSpec.upto fixturePatchesComeBackSpec)) fixturePatchesComeBackUptoCard
end Rows
end Go.Proofs.YtcidldomnifdeaaDoor
