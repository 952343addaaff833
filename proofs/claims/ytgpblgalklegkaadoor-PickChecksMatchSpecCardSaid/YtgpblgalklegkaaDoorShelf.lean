/- The library's functions that this program calls, by the library's own contracts, at this program's numbers: math/bits.Mul64, Add64, Sub64 and sort.Search. -/
import Derived.Test.YtgpblgalklegkaaDoorRows
import Derived.Test.YtgpblgalklegkaaDoorGr
import Derived.Shelf.Bits.Mul64
import Derived.Shelf.Spec.BitsCarry
import Derived.Shelf.SlSorted.Search
namespace Go.Proofs.YtgpblgalklegkaaDoor
open Go.RowKit Go.Lib Go.Sort Go.Shelf
end Go.Proofs.YtgpblgalklegkaaDoor
