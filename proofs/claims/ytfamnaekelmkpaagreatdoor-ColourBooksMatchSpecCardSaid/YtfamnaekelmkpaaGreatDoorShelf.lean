/- The library's functions that this program calls, by the library's own contracts, at this program's numbers: math/bits.Mul64, Add64, Sub64 and sort.Search. -/
import Derived.Test.YtfamnaekelmkpaaGreatDoorRows
import Derived.Test.YtfamnaekelmkpaaGreatDoorGr
import Derived.Shelf.Bits.Mul64
import Derived.Shelf.Spec.BitsCarry
import Derived.Shelf.SlSorted.Search
namespace Go.Proofs.YtfamnaekelmkpaaGreatDoor
open Go.RowKit Go.Lib Go.Sort Go.Shelf
def mulR : Go.Shelf.Ren := ⟨fun | 264 => 94 | n => n, fun | 53 => 89 | 46 => 102 | n => n, fun n => n⟩
theorem mulL : Lays.n264 Tryz.prog mulR := { mixed := by kernel_rfl, f264 := Tryz.func94.trans (congrArg some (by kernel_rfl)), t53 := Tryz.underlying89, a53 := Tryz.isAgg89, z53 := Tryz.sizeOf89, v53 := Tryz.zeroValue89, t46 := Tryz.underlying102, a46 := Tryz.isAgg102, z46 := Tryz.sizeOf102, v46 := Tryz.zeroValue102 }
theorem mul64 (x y : Nat) (hx : x < 18446744073709551616) (hy : y < 18446744073709551616) (w : World) :
    Calls Tryz.prog 94 #[.int .u64 x, .int .u64 y] w fun e w' => e = .returned (.tuple #[.int .u64 ((x * y / 18446744073709551616 : Nat) : Int), .int .u64 ((x * y % 18446744073709551616 : Nat) : Int)]) ∧ w' = w := Any.bits_Mul64 mulL x y hx hy w
end Go.Proofs.YtfamnaekelmkpaaGreatDoor
