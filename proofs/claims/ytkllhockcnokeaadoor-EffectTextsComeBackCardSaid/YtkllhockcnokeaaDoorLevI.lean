/- Levels: IsLevel. -/
import Derived.Test.YtkllhockcnokeaaDoorRet
import Derived.Test.YtkllhockcnokeaaDoorProg
import Derived.Handy
import Derived.Lib.Hide
namespace Go.Proofs.YtkllhockcnokeaaDoor
open Go.RowKit Go.Sort

def isLev (n : Int) : Bool := decide (0 ≤ n) && decide (n ≤ 65535)
theorem isLev_iff {n : Int} : isLev n = true ↔ 0 ≤ n ∧ n ≤ 65535 := by unfold isLev; simp
set_option maxHeartbeats 400000 in
theorem isLevel_any (n : Int) (w : World) :
    Calls Tryd.prog 23 #[.int .i64 n] w fun e w' => e = .returned (.bool (isLev n)) ∧ w = w' := by
  go_enter Tryd.func23, Tryd.ntmps23
  go_wp2
  all_goals go_returns
  · refine ⟨ret_bool ?_, rfl⟩
    have h0 : 0 ≤ n := by assumption
    simp [isLev, h0]
  · refine ⟨ret_bool ?_, rfl⟩
    have h0 : n < 0 := by assumption
    have h1 : ¬ 0 ≤ n := by omega
    simp [isLev, h1]

end Go.Proofs.YtkllhockcnokeaaDoor
