/- isPart of the program. -/
import Derived.Test.YtgpblgalklegkaaOf
namespace Go.Proofs.Ytgpblgalklegkaa
open Go.RowKit

def isPt (p q : Int) : Bool := decide (1 ≤ q) && decide (q ≤ 36000000) && decide (0 ≤ p) && decide (p ≤ q)
theorem isPt_iff {p q : Int} : isPt p q = true ↔ 1 ≤ q ∧ q ≤ 36000000 ∧ 0 ≤ p ∧ p ≤ q := by unfold isPt; simp; omega
end Go.Proofs.Ytgpblgalklegkaa
