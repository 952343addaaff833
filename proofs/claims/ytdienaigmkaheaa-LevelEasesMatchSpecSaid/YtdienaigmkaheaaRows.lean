/-
  No cell of these rows narrows 'for every input' (looked for: loops, veiled, ifaces, maps, wideKeys, modest, calm, conditions, laid).
  DERIVED. THE GIVEN ROWS OF THIS SEAT. 3 by the template 'for every input the law returns true; each argument reads behind the call as it read before'; 0 by the template 'total and deterministic' (their statements: YtdienaigmkaheaaTotals.lean).
  GIVEN WITH THE SEED: the statements are not yours to turn. If you find one false, say at which input.
  Laid BY PROGRAM, IN A SANDBOX (cutbox-rows.mjs): the forced cells as the released guide's own fill.sh prints them over the translation a57833dc84de00e5… (all of the seat's roots in one cut). By AI agents, Wed Nov 11 2026. No macro, syntax, notation, axiom, sorry.
-/
import Derived.Test.YtdienaigmkaheaaChecked
import GoSem.Claim
import GoSem.ClaimJoined
import GoSem.ClaimMapViews
import Derived.JoinedTies
import Derived.KernelRfl
namespace Go.Proofs.Ytdienaigmkaheaa
/- THE CELL 'sum', in the pinned program and in every row, IS THE sha256 OF THE DUMP (.gsa) THAT YtdienaigmkaheaaProg.lean LOADS. Nothing in Lean hashes anything: it is a label: what it is worth is what the hold of that sum in a sandbox is worth. -/
noncomputable def Try.pinned : Pinned := { name := "ytdienaigmkaheaa", sum := "a57833dc84de00e5e77235a12ddd64dd0cf95a9044ab64124f9e164531667d76", checked := Try.checked }
namespace Rows
def none {H : Type} : Left H := { results := [], args := [] }

/-- 'cycloramalaw1.LevelSumsMatchSpec': WHATEVER THE INPUT: true; the input reads as it did. -/
def levelSumsMatchSpecSpec : ChangeSpec := { name := "levelSumsMatchSpec", fn := fun _ => fun
  | [d1, d2, d3, d4, d5] => { results := [.lit (.bool true)], args := [d1, d2, d3, d4, d5] }
  | _ => none }
def levelSumsMatchSpecRow : OpenClaim := { program := "ytdienaigmkaheaa", sum := "a57833dc84de00e5e77235a12ddd64dd0cf95a9044ab64124f9e164531667d76", func := "cyclorama/cycloramalaw1.LevelSumsMatchSpec", spec := "levelSumsMatchSpec", inPlace := ["math/bits.Add64", "math/bits.Sub64"], unfollowed := true, recurses := true, apart := false }
def LevelSumsMatchSpecSaid : Prop := levelSumsMatchSpecRow.holds Try.pinned (OpenSpec.ofChange levelSumsMatchSpecSpec)

/-- ITS FALSE NEIGHBOUR: 'it returns false'. Refute it at one input. -/
def levelSumsMatchSpecWrong : ChangeSpec := { name := "levelSumsMatchSpec", fn := fun _ => fun
  | [d1, d2, d3, d4, d5] => { results := [.lit (.bool false)], args := [d1, d2, d3, d4, d5] }
  | _ => none }
def LevelSumsMatchSpecWrongFalsely : Prop := levelSumsMatchSpecRow.holds Try.pinned (OpenSpec.ofChange levelSumsMatchSpecWrong)

/-- 'cycloramalaw1.LevelEasesMatchSpec': WHATEVER THE INPUT: true; the input reads as it did. -/
def levelEasesMatchSpecSpec : ChangeSpec := { name := "levelEasesMatchSpec", fn := fun _ => fun
  | [d1, d2, d3] => { results := [.lit (.bool true)], args := [d1, d2, d3] }
  | _ => none }
def levelEasesMatchSpecRow : OpenClaim := { program := "ytdienaigmkaheaa", sum := "a57833dc84de00e5e77235a12ddd64dd0cf95a9044ab64124f9e164531667d76", func := "cyclorama/cycloramalaw1.LevelEasesMatchSpec", spec := "levelEasesMatchSpec", inPlace := ["math/bits.Sub64", "math/bits.Add64"], unfollowed := true, recurses := true, apart := false }
def LevelEasesMatchSpecSaid : Prop := levelEasesMatchSpecRow.holds Try.pinned (OpenSpec.ofChange levelEasesMatchSpecSpec)

/-- ITS FALSE NEIGHBOUR: 'it returns false'. Refute it at one input. -/
def levelEasesMatchSpecWrong : ChangeSpec := { name := "levelEasesMatchSpec", fn := fun _ => fun
  | [d1, d2, d3] => { results := [.lit (.bool false)], args := [d1, d2, d3] }
  | _ => none }
def LevelEasesMatchSpecWrongFalsely : Prop := levelEasesMatchSpecRow.holds Try.pinned (OpenSpec.ofChange levelEasesMatchSpecWrong)

/-- 'cycloramalaw1.LevelInversesGoBack': WHATEVER THE INPUT: true; the input reads as it did. -/
def levelInversesGoBackSpec : ChangeSpec := { name := "levelInversesGoBack", fn := fun _ => fun
  | [d1, d2, d3] => { results := [.lit (.bool true)], args := [d1, d2, d3] }
  | _ => none }
def levelInversesGoBackRow : OpenClaim := { program := "ytdienaigmkaheaa", sum := "a57833dc84de00e5e77235a12ddd64dd0cf95a9044ab64124f9e164531667d76", func := "cyclorama/cycloramalaw1.LevelInversesGoBack", spec := "levelInversesGoBack", inPlace := ["math/bits.Sub64", "math/bits.Add64"], unfollowed := true, recurses := true, apart := false }
def LevelInversesGoBackSaid : Prop := levelInversesGoBackRow.holds Try.pinned (OpenSpec.ofChange levelInversesGoBackSpec)

/-- ITS FALSE NEIGHBOUR: 'it returns false'. Refute it at one input. -/
def levelInversesGoBackWrong : ChangeSpec := { name := "levelInversesGoBack", fn := fun _ => fun
  | [d1, d2, d3] => { results := [.lit (.bool false)], args := [d1, d2, d3] }
  | _ => none }
def LevelInversesGoBackWrongFalsely : Prop := levelInversesGoBackRow.holds Try.pinned (OpenSpec.ofChange levelInversesGoBackWrong)

/- THE SECOND FORM. 'bulk': how many values and letters a reading holds, each counted each time it is reached (what is shared counts as often as it is met; a slice's spare places count too). A statement '..UptoSaid' is the law's where the arguments, and the package variables that the reading takes, are together of bulk at most 1048576: NARROWER than '..Said'. Prove '..Said' where nothing that the law and all that it calls make is longer than what came in: it says more and counts as full. Else prove '..UptoSaid'. A law counts once. -/
mutual
def uptoBulk {H : Type} : DataW H → Nat
  | .lit (.string bytes) => bytes.length + 1
  | .lit _ => 1
  | .nil => 1
  | .ptr d => uptoBulk d + 1
  | .slice elems spare => uptoBulkAll elems + uptoBulkAll spare + 1
  | .agg parts => uptoBulkAll parts + 1
  | .iface _ d => uptoBulk d + 1
  | .map entries => uptoBulkEntries entries + 1
  | .held _ => 1
def uptoBulkAll {H : Type} : List (DataW H) → Nat
  | [] => 0
  | d :: r => uptoBulk d + uptoBulkAll r
def uptoBulkEntries {H : Type} : List (Lit × DataW H) → Nat
  | [] => 0
  | x :: r => uptoBulkEntry x + uptoBulkEntries r
def uptoBulkEntry {H : Type} : Lit × DataW H → Nat
  | (.string bytes, d) => bytes.length + uptoBulk d + 1
  | (_, d) => uptoBulk d + 1
 end
def uptoSmall : (H : Type) → List (DataW H) → Bool := fun _ ds => decide (uptoBulkAll ds ≤ 1048576)
def OpenSpec.upto (s : _root_.Go.ChangeSpec) : _root_.Go.OpenSpec := { _root_.Go.OpenSpec.ofChange s with cond := some uptoSmall }

/-- 'cycloramalaw1.LevelSumsMatchSpec', WHERE WHAT IT READS IS OF BULK AT MOST 1048576: true; the input reads as it did. -/
def levelSumsMatchSpecUptoRow : OpenClaim := { program := "ytdienaigmkaheaa", sum := "a57833dc84de00e5e77235a12ddd64dd0cf95a9044ab64124f9e164531667d76", func := "cyclorama/cycloramalaw1.LevelSumsMatchSpec", spec := "levelSumsMatchSpec", inPlace := ["math/bits.Add64", "math/bits.Sub64"], unfollowed := true, recurses := true, apart := false, narrowed := true }
def LevelSumsMatchSpecUptoSaid : Prop := levelSumsMatchSpecUptoRow.holds Try.pinned (OpenSpec.upto levelSumsMatchSpecSpec)

/-- 'cycloramalaw1.LevelEasesMatchSpec', WHERE WHAT IT READS IS OF BULK AT MOST 1048576: true; the input reads as it did. -/
def levelEasesMatchSpecUptoRow : OpenClaim := { program := "ytdienaigmkaheaa", sum := "a57833dc84de00e5e77235a12ddd64dd0cf95a9044ab64124f9e164531667d76", func := "cyclorama/cycloramalaw1.LevelEasesMatchSpec", spec := "levelEasesMatchSpec", inPlace := ["math/bits.Sub64", "math/bits.Add64"], unfollowed := true, recurses := true, apart := false, narrowed := true }
def LevelEasesMatchSpecUptoSaid : Prop := levelEasesMatchSpecUptoRow.holds Try.pinned (OpenSpec.upto levelEasesMatchSpecSpec)

/-- 'cycloramalaw1.LevelInversesGoBack', WHERE WHAT IT READS IS OF BULK AT MOST 1048576: true; the input reads as it did. -/
def levelInversesGoBackUptoRow : OpenClaim := { program := "ytdienaigmkaheaa", sum := "a57833dc84de00e5e77235a12ddd64dd0cf95a9044ab64124f9e164531667d76", func := "cyclorama/cycloramalaw1.LevelInversesGoBack", spec := "levelInversesGoBack", inPlace := ["math/bits.Sub64", "math/bits.Add64"], unfollowed := true, recurses := true, apart := false, narrowed := true }
def LevelInversesGoBackUptoSaid : Prop := levelInversesGoBackUptoRow.holds Try.pinned (OpenSpec.upto levelInversesGoBackSpec)

end Rows
end Go.Proofs.Ytdienaigmkaheaa
