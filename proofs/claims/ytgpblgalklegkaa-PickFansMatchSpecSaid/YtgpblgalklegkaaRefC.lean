/- The reference's CheckCurve. -/
import Derived.Test.YtgpblgalklegkaaRefI
import Derived.Test.YtgpblgalklegkaaCheck
import Derived.Test.YtgpblgalklegkaaBox
namespace Go.Proofs.Ytgpblgalklegkaa
open Go.RowKit

def PCk (c : Int) (w : World) (e : Ending) (w' : World) : Prop := e = .returned (.int .i64 c) ∧ Bl w w'

end Go.Proofs.Ytgpblgalklegkaa
