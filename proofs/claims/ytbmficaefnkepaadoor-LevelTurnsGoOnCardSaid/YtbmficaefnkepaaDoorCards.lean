/-
  DERIVED. GIVEN WITH THE SEED: THE CARDS: each row of YtbmficaefnkepaaDoorRows.lean that lists a variable, with what it lists TIED to the program's text (the seventh form; the later family's looks); each row that meets fmt, with fmt's text TOLD by the authors' own Lean function (tested against real Go, not proved from fmt's source: count such statements apart). THE CARD IS WHAT COUNTS. Prove the row's statement (the work); the ties are given (YtbmficaefnkepaaDoorTie.lean); close each card by the builder's one call (the guide's Derived/Test/ToyasCard.lean, 'card_holds'). Laid BY PROGRAM, IN A SANDBOX (cutbox-door.mjs). By AI agents, Wed Nov 11 2026. No macro, syntax, notation, axiom, sorry.
-/
import Derived.Test.YtbmficaefnkepaaDoorRows
import GoSem.ClaimSeven
namespace Go.Proofs.YtbmficaefnkepaaDoor
namespace Rows

/-- THE TIED CARD OF 'cycloramalaw1.LevelReachIsFirst'. -/
def levelReachIsFirstCard : Claim7 := { stood := { row := levelReachIsFirstRow, standIns := [], harness := (true, "1f91369b4277850ac435016c33ac9a14cfbdf2f2d8793a4d57e7df0abb5da321"), looks := false }, kinds := [], alts := [], laidByText := true, laidKinds := [.data, .data, .data, .data, .pinned], laidTests := true, laidLooks := .later }
def LevelReachIsFirstCardSaid : Prop := Claim7.holds Tryd.pinned (.plain (OpenSpec.ofChange levelReachIsFirstSpec)) levelReachIsFirstCard

/-- THE TIED CARD OF 'cycloramalaw1.LevelTurnsGoOn'. -/
def levelTurnsGoOnCard : Claim7 := { stood := { row := levelTurnsGoOnRow, standIns := [], harness := (true, "1f91369b4277850ac435016c33ac9a14cfbdf2f2d8793a4d57e7df0abb5da321"), looks := false }, kinds := [], alts := [], laidByText := true, laidKinds := [.data, .data, .data, .data, .pinned], laidTests := true, laidLooks := .later }
def LevelTurnsGoOnCardSaid : Prop := Claim7.holds Tryd.pinned (.plain (OpenSpec.ofChange levelTurnsGoOnSpec)) levelTurnsGoOnCard

/-- THE SECOND FORM's CARD OF 'cycloramalaw1.LevelReachIsFirst'. -/
def levelReachIsFirstUptoCard : Claim7 := { stood := { row := levelReachIsFirstUptoRow, standIns := [], harness := (true, "1f91369b4277850ac435016c33ac9a14cfbdf2f2d8793a4d57e7df0abb5da321"), looks := false }, kinds := [], alts := [], laidByText := true, laidKinds := [.data, .data, .data, .data, .pinned], laidTests := true, laidLooks := .later }
def LevelReachIsFirstUptoCardSaid : Prop := Claim7.holds Tryd.pinned (.plain (OpenSpec.upto levelReachIsFirstSpec)) levelReachIsFirstUptoCard

/-- THE SECOND FORM's CARD OF 'cycloramalaw1.LevelTurnsGoOn'. -/
def levelTurnsGoOnUptoCard : Claim7 := { stood := { row := levelTurnsGoOnUptoRow, standIns := [], harness := (true, "1f91369b4277850ac435016c33ac9a14cfbdf2f2d8793a4d57e7df0abb5da321"), looks := false }, kinds := [], alts := [], laidByText := true, laidKinds := [.data, .data, .data, .data, .pinned], laidTests := true, laidLooks := .later }
def LevelTurnsGoOnUptoCardSaid : Prop := Claim7.holds Tryd.pinned (.plain (OpenSpec.upto levelTurnsGoOnSpec)) levelTurnsGoOnUptoCard
end Rows
end Go.Proofs.YtbmficaefnkepaaDoor
