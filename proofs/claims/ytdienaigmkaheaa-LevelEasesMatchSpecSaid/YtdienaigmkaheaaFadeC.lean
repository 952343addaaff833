/- The reference's fades: IsTime, CheckFade, Ends. -/
import Derived.Test.YtdienaigmkaheaaRefC
import Derived.Test.YtdienaigmkaheaaRefL
import Derived.Test.YtdienaigmkaheaaFadeM
import Derived.Test.YtdienaigmkaheaaAt
import Derived.Test.YtdienaigmkaheaaEnds
namespace Go.Proofs.Ytdienaigmkaheaa
open Go.RowKit

/-- What Ends says. -/
def enV (F T S Dl Tm k : Int) (l : List (Int × Int)) : Int := if ckFade F T S Dl Tm k l ≠ 0 then 0 else S + Dl + Tm

end Go.Proofs.Ytdienaigmkaheaa
