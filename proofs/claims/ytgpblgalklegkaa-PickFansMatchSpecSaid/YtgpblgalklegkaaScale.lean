/- Scale and Octet. -/
import Derived.Test.YtgpblgalklegkaaLev
namespace Go.Proofs.Ytgpblgalklegkaa
open Go.RowKit Go.Sort

end Go.Proofs.Ytgpblgalklegkaa
