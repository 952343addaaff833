/-
  No cell of these rows narrows 'for every input' (looked for: loops, veiled, ifaces, maps, wideKeys, modest, calm, conditions, laid).
  DERIVED. THE GIVEN ROWS OF THIS SEAT. 4 by the template 'for every input the law returns true; each argument reads behind the call as it read before'; 0 by the template 'total and deterministic' (their statements: YtdmpdcggepfaiaaTotals.lean).
  GIVEN WITH THE SEED: the statements are not yours to turn. If you find one false, say at which input.
  Laid BY PROGRAM, IN A SANDBOX (cutbox-rows.mjs): the forced cells as the released guide's own fill.sh prints them over the translation b5a25dc22a43ebfb… (all of the seat's roots in one cut). By AI agents, Wed Nov 11 2026. No macro, syntax, notation, axiom, sorry.
-/
import Derived.Test.YtdmpdcggepfaiaaChecked
import GoSem.Claim
import GoSem.ClaimJoined
import GoSem.ClaimMapViews
import Derived.JoinedTies
import Derived.KernelRfl
namespace Go.Proofs.Ytdmpdcggepfaiaa
/- THE CELL 'sum', in the pinned program and in every row, IS THE sha256 OF THE DUMP (.gsa) THAT YtdmpdcggepfaiaaProg.lean LOADS. Nothing in Lean hashes anything: it is a label: what it is worth is what the hold of that sum in a sandbox is worth. -/
noncomputable def Try.pinned : Pinned := { name := "ytdmpdcggepfaiaa", sum := "b5a25dc22a43ebfbe76fd85ea2aef57d2398f46740b5ac4300ef7fd545304e71", checked := Try.checked }
namespace Rows
def none {H : Type} : Left H := { results := [], args := [] }

/-- 'cycloramalaw3.ColourTonesMatchSpec': WHATEVER THE INPUT: true; the input reads as it did. -/
def colourTonesMatchSpecSpec : ChangeSpec := { name := "colourTonesMatchSpec", fn := fun _ => fun
  | [d1, d2] => { results := [.lit (.bool true)], args := [d1, d2] }
  | _ => none }
def colourTonesMatchSpecRow : OpenClaim := { program := "ytdmpdcggepfaiaa", sum := "b5a25dc22a43ebfbe76fd85ea2aef57d2398f46740b5ac4300ef7fd545304e71", func := "cyclorama/cycloramalaw3.ColourTonesMatchSpec", spec := "colourTonesMatchSpec", unfollowed := true, recurses := true, apart := false }
def ColourTonesMatchSpecSaid : Prop := colourTonesMatchSpecRow.holds Try.pinned (OpenSpec.ofChange colourTonesMatchSpecSpec)

/-- ITS FALSE NEIGHBOUR: 'it returns false'. Refute it at one input. -/
def colourTonesMatchSpecWrong : ChangeSpec := { name := "colourTonesMatchSpec", fn := fun _ => fun
  | [d1, d2] => { results := [.lit (.bool false)], args := [d1, d2] }
  | _ => none }
def ColourTonesMatchSpecWrongFalsely : Prop := colourTonesMatchSpecRow.holds Try.pinned (OpenSpec.ofChange colourTonesMatchSpecWrong)

/-- 'cycloramalaw3.ColourTonesAreNear': WHATEVER THE INPUT: true; the input reads as it did. -/
def colourTonesAreNearSpec : ChangeSpec := { name := "colourTonesAreNear", fn := fun _ => fun
  | [d] => { results := [.lit (.bool true)], args := [d] }
  | _ => none }
def colourTonesAreNearRow : OpenClaim := { program := "ytdmpdcggepfaiaa", sum := "b5a25dc22a43ebfbe76fd85ea2aef57d2398f46740b5ac4300ef7fd545304e71", func := "cyclorama/cycloramalaw3.ColourTonesAreNear", spec := "colourTonesAreNear", unfollowed := true, recurses := true, apart := false }
def ColourTonesAreNearSaid : Prop := colourTonesAreNearRow.holds Try.pinned (OpenSpec.ofChange colourTonesAreNearSpec)

/-- ITS FALSE NEIGHBOUR: 'it returns false'. Refute it at one input. -/
def colourTonesAreNearWrong : ChangeSpec := { name := "colourTonesAreNear", fn := fun _ => fun
  | [d] => { results := [.lit (.bool false)], args := [d] }
  | _ => none }
def ColourTonesAreNearWrongFalsely : Prop := colourTonesAreNearRow.holds Try.pinned (OpenSpec.ofChange colourTonesAreNearWrong)

/-- 'cycloramalaw3.ColourWaysMatchSpec': WHATEVER THE INPUT: true; the input reads as it did. -/
def colourWaysMatchSpecSpec : ChangeSpec := { name := "colourWaysMatchSpec", fn := fun _ => fun
  | [d1, d2, d3, d4, d5] => { results := [.lit (.bool true)], args := [d1, d2, d3, d4, d5] }
  | _ => none }
def colourWaysMatchSpecRow : OpenClaim := { program := "ytdmpdcggepfaiaa", sum := "b5a25dc22a43ebfbe76fd85ea2aef57d2398f46740b5ac4300ef7fd545304e71", func := "cyclorama/cycloramalaw3.ColourWaysMatchSpec", spec := "colourWaysMatchSpec", inPlace := ["math/bits.Add64", "math/bits.Sub64"], unfollowed := true, recurses := true, apart := false }
def ColourWaysMatchSpecSaid : Prop := colourWaysMatchSpecRow.holds Try.pinned (OpenSpec.ofChange colourWaysMatchSpecSpec)

/-- ITS FALSE NEIGHBOUR: 'it returns false'. Refute it at one input. -/
def colourWaysMatchSpecWrong : ChangeSpec := { name := "colourWaysMatchSpec", fn := fun _ => fun
  | [d1, d2, d3, d4, d5] => { results := [.lit (.bool false)], args := [d1, d2, d3, d4, d5] }
  | _ => none }
def ColourWaysMatchSpecWrongFalsely : Prop := colourWaysMatchSpecRow.holds Try.pinned (OpenSpec.ofChange colourWaysMatchSpecWrong)

/-- 'cycloramalaw3.ColourWaysEnd': WHATEVER THE INPUT: true; the input reads as it did. -/
def colourWaysEndSpec : ChangeSpec := { name := "colourWaysEnd", fn := fun _ => fun
  | [d1, d2, d3, d4] => { results := [.lit (.bool true)], args := [d1, d2, d3, d4] }
  | _ => none }
def colourWaysEndRow : OpenClaim := { program := "ytdmpdcggepfaiaa", sum := "b5a25dc22a43ebfbe76fd85ea2aef57d2398f46740b5ac4300ef7fd545304e71", func := "cyclorama/cycloramalaw3.ColourWaysEnd", spec := "colourWaysEnd", inPlace := ["math/bits.Sub64", "math/bits.Add64"], unfollowed := true, recurses := true, apart := false }
def ColourWaysEndSaid : Prop := colourWaysEndRow.holds Try.pinned (OpenSpec.ofChange colourWaysEndSpec)

/-- ITS FALSE NEIGHBOUR: 'it returns false'. Refute it at one input. -/
def colourWaysEndWrong : ChangeSpec := { name := "colourWaysEnd", fn := fun _ => fun
  | [d1, d2, d3, d4] => { results := [.lit (.bool false)], args := [d1, d2, d3, d4] }
  | _ => none }
def ColourWaysEndWrongFalsely : Prop := colourWaysEndRow.holds Try.pinned (OpenSpec.ofChange colourWaysEndWrong)

/- THE SECOND FORM. 'bulk': how many values and letters a reading holds, each counted each time it is reached (what is shared counts as often as it is met; a slice's spare places count too). A statement '..UptoSaid' is the law's where the arguments, and the package variables that the reading takes, are together of bulk at most 1048576: NARROWER than '..Said'. Prove '..Said' where nothing that the law and all that it calls make is longer than what came in: it says more and counts as full. Else prove '..UptoSaid'. A law counts once. -/
mutual
def uptoBulk {H : Type} : DataW H → Nat
  | .lit (.string bytes) => bytes.length + 1
  | .lit _ => 1
  | .nil => 1
  | .ptr d => uptoBulk d + 1
  | .slice elems spare => uptoBulkAll elems + uptoBulkAll spare + 1
  | .agg parts => uptoBulkAll parts + 1
  | .iface _ d => uptoBulk d + 1
  | .map entries => uptoBulkEntries entries + 1
  | .held _ => 1
def uptoBulkAll {H : Type} : List (DataW H) → Nat
  | [] => 0
  | d :: r => uptoBulk d + uptoBulkAll r
def uptoBulkEntries {H : Type} : List (Lit × DataW H) → Nat
  | [] => 0
  | x :: r => uptoBulkEntry x + uptoBulkEntries r
def uptoBulkEntry {H : Type} : Lit × DataW H → Nat
  | (.string bytes, d) => bytes.length + uptoBulk d + 1
  | (_, d) => uptoBulk d + 1
 end
def uptoSmall : (H : Type) → List (DataW H) → Bool := fun _ ds => decide (uptoBulkAll ds ≤ 1048576)
def OpenSpec.upto (s : _root_.Go.ChangeSpec) : _root_.Go.OpenSpec := { _root_.Go.OpenSpec.ofChange s with cond := some uptoSmall }

/-- 'cycloramalaw3.ColourTonesMatchSpec', WHERE WHAT IT READS IS OF BULK AT MOST 1048576: true; the input reads as it did. -/
def colourTonesMatchSpecUptoRow : OpenClaim := { program := "ytdmpdcggepfaiaa", sum := "b5a25dc22a43ebfbe76fd85ea2aef57d2398f46740b5ac4300ef7fd545304e71", func := "cyclorama/cycloramalaw3.ColourTonesMatchSpec", spec := "colourTonesMatchSpec", unfollowed := true, recurses := true, apart := false, narrowed := true }
def ColourTonesMatchSpecUptoSaid : Prop := colourTonesMatchSpecUptoRow.holds Try.pinned (OpenSpec.upto colourTonesMatchSpecSpec)

/-- 'cycloramalaw3.ColourTonesAreNear', WHERE WHAT IT READS IS OF BULK AT MOST 1048576: true; the input reads as it did. -/
def colourTonesAreNearUptoRow : OpenClaim := { program := "ytdmpdcggepfaiaa", sum := "b5a25dc22a43ebfbe76fd85ea2aef57d2398f46740b5ac4300ef7fd545304e71", func := "cyclorama/cycloramalaw3.ColourTonesAreNear", spec := "colourTonesAreNear", unfollowed := true, recurses := true, apart := false, narrowed := true }
def ColourTonesAreNearUptoSaid : Prop := colourTonesAreNearUptoRow.holds Try.pinned (OpenSpec.upto colourTonesAreNearSpec)

/-- 'cycloramalaw3.ColourWaysMatchSpec', WHERE WHAT IT READS IS OF BULK AT MOST 1048576: true; the input reads as it did. -/
def colourWaysMatchSpecUptoRow : OpenClaim := { program := "ytdmpdcggepfaiaa", sum := "b5a25dc22a43ebfbe76fd85ea2aef57d2398f46740b5ac4300ef7fd545304e71", func := "cyclorama/cycloramalaw3.ColourWaysMatchSpec", spec := "colourWaysMatchSpec", inPlace := ["math/bits.Add64", "math/bits.Sub64"], unfollowed := true, recurses := true, apart := false, narrowed := true }
def ColourWaysMatchSpecUptoSaid : Prop := colourWaysMatchSpecUptoRow.holds Try.pinned (OpenSpec.upto colourWaysMatchSpecSpec)

/-- 'cycloramalaw3.ColourWaysEnd', WHERE WHAT IT READS IS OF BULK AT MOST 1048576: true; the input reads as it did. -/
def colourWaysEndUptoRow : OpenClaim := { program := "ytdmpdcggepfaiaa", sum := "b5a25dc22a43ebfbe76fd85ea2aef57d2398f46740b5ac4300ef7fd545304e71", func := "cyclorama/cycloramalaw3.ColourWaysEnd", spec := "colourWaysEnd", inPlace := ["math/bits.Sub64", "math/bits.Add64"], unfollowed := true, recurses := true, apart := false, narrowed := true }
def ColourWaysEndUptoSaid : Prop := colourWaysEndUptoRow.holds Try.pinned (OpenSpec.upto colourWaysEndSpec)

end Rows
end Go.Proofs.Ytdmpdcggepfaiaa
