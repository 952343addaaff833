/- Ends. -/
import Derived.Test.YtgpblgalklegkaaAt
namespace Go.Proofs.Ytgpblgalklegkaa
open Go.RowKit

end Go.Proofs.Ytgpblgalklegkaa
