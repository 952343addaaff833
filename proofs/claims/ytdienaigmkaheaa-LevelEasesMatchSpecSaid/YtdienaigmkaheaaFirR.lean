/- The search of the reference, for a level that is known to be given. -/
import Derived.Test.YtdienaigmkaheaaFadeC
namespace Go.Proofs.Ytdienaigmkaheaa
open Go.RowKit

/-- What holds in the search. -/
structure FirRel (p : Int → Bool) (lo hi x y : Int) : Prop where
  a : lo ≤ x
  b : x ≤ y
  c : y ≤ hi
  d : y < hi → p y = true
  e : ∀ z, lo ≤ z → z < x → p z = false
def FirR (W : World) (p : Int → Bool) (lo hi : Int) (v1 v2 : Value) (wr : World) : Prop := ∃ x y : Int, v1 = .int .i64 x ∧ v2 = .int .i64 y ∧ FirRel p lo hi x y ∧ Bl W wr

end Go.Proofs.Ytdienaigmkaheaa
