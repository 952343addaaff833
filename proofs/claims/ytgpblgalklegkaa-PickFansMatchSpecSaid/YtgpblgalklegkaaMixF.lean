/- Mix, of the program and of the reference. -/
import Derived.Test.YtgpblgalklegkaaSumF
import Derived.Test.YtgpblgalklegkaaPart
namespace Go.Proofs.Ytgpblgalklegkaa
open Go.RowKit

def mxB (a b p q : Int) : Bool := isLev a && isLev b && isPt p q
/-- What Mix gives. -/
def mxV (a b p q : Int) : Int := if mxB a b p q = true then btw p q a b else 0
def mxX (a b p q : Int) : Int := if mxB a b p q = true then 0 else 1
theorem mx_no {a b p q : Int} (h : mxB a b p q = false) : mxV a b p q = 0 ∧ mxX a b p q = 1 := by unfold mxV mxX; rw [h]; exact ⟨rfl, rfl⟩
theorem mx_yes {a b p q : Int} (h : mxB a b p q = true) : mxV a b p q = btw p q a b ∧ mxX a b p q = 0 := by unfold mxV mxX; rw [h]; exact ⟨rfl, rfl⟩

end Go.Proofs.Ytgpblgalklegkaa
