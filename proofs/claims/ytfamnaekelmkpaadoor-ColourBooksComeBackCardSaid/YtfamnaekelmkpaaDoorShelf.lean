/- The library's functions that this program calls, by the library's own contracts, at this program's numbers: math/bits.Mul64, Add64, Sub64 and sort.Search. -/
import Derived.Test.YtfamnaekelmkpaaDoorRows
import Derived.Test.YtfamnaekelmkpaaDoorGr
import Derived.Shelf.Bits.Mul64
import Derived.Shelf.Spec.BitsCarry
import Derived.Shelf.SlSorted.Search
namespace Go.Proofs.YtfamnaekelmkpaaDoor
open Go.RowKit Go.Lib Go.Sort Go.Shelf
def mulR : Go.Shelf.Ren := ⟨fun | 264 => 99 | n => n, fun | 53 => 49 | 46 => 96 | n => n, fun n => n⟩
theorem mulL : Lays.n264 Tryd.prog mulR := { mixed := by kernel_rfl, f264 := Tryd.func99.trans (congrArg some (by kernel_rfl)), t53 := Tryd.underlying49, a53 := Tryd.isAgg49, z53 := Tryd.sizeOf49, v53 := Tryd.zeroValue49, t46 := Tryd.underlying96, a46 := Tryd.isAgg96, z46 := Tryd.sizeOf96, v46 := Tryd.zeroValue96 }
theorem mul64 (x y : Nat) (hx : x < 18446744073709551616) (hy : y < 18446744073709551616) (w : World) :
    Calls Tryd.prog 99 #[.int .u64 x, .int .u64 y] w fun e w' => e = .returned (.tuple #[.int .u64 ((x * y / 18446744073709551616 : Nat) : Int), .int .u64 ((x * y % 18446744073709551616 : Nat) : Int)]) ∧ w' = w := Any.bits_Mul64 mulL x y hx hy w
end Go.Proofs.YtfamnaekelmkpaaDoor
