/- Ends. -/
import Derived.Test.YtdienaigmkaheaaAt
namespace Go.Proofs.Ytdienaigmkaheaa
open Go.RowKit

end Go.Proofs.Ytdienaigmkaheaa
