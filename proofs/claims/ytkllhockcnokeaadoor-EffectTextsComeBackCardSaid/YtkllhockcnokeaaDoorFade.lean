/- Fades: CheckFade, course. -/
import Derived.Test.YtkllhockcnokeaaDoorLev
import Derived.Test.YtkllhockcnokeaaDoorCurves
namespace Go.Proofs.YtkllhockcnokeaaDoor
open Go.RowKit Go.Sort

def isTm (n : Int) : Bool := decide (0 ≤ n) && decide (n ≤ 36000000)
theorem isTm_iff {n : Int} : isTm n = true ↔ 0 ≤ n ∧ n ≤ 36000000 := by unfold isTm; simp
/-- What is wrong with a fade. -/
def ckFade (F T S Dl Tm k : Int) (l : List (Int × Int)) : Int :=
  if (isLev F && isLev T) = false then 1 else if (isTm S && isTm Dl && isTm Tm && isTm (S + Dl + Tm)) = false then 1 else ckCurve k l

end Go.Proofs.YtkllhockcnokeaaDoor
