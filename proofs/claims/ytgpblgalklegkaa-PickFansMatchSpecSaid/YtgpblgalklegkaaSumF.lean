/- The reference's Scale, Mix, Octet, FromOctet; the program's Mix and its errors. -/
import Derived.Test.YtgpblgalklegkaaRefL
import Derived.Test.YtgpblgalklegkaaScale
namespace Go.Proofs.Ytgpblgalklegkaa
open Go.RowKit

/-- What Scale gives. -/
def scV (a b : Int) : Int := if (isLev a && isLev b) = true then rnd b 65535 a else 0
def scX (a b : Int) : Int := if (isLev a && isLev b) = true then 0 else 1
/-- What Octet gives. -/
def ocV (n : Int) : Int := if isLev n = true then rnd n 65535 255 else 0
def ocX (n : Int) : Int := if isLev n = true then 0 else 1
end Go.Proofs.Ytgpblgalklegkaa
