/- The reference: Within, IsLevel. -/
import Derived.Test.YtgpblgalklegkaaDoorLevI
namespace Go.Proofs.YtgpblgalklegkaaDoor
open Go.RowKit

set_option maxHeartbeats 400000 in
theorem within_any (n lo hi : Int) (w : World) :
    Calls Tryd.prog 51 #[.int .i64 n, .int .i64 lo, .int .i64 hi] w fun e w' => e = .returned (.bool (decide (lo ≤ n) && decide (n ≤ hi))) ∧ w = w' := by
  by_cases h : lo ≤ n
  · have e : Hid ((decide (lo ≤ n) && decide (n ≤ hi)) = decide (n ≤ hi)) := by show _ = _; simp [h]
    go_enter Tryd.func51, Tryd.ntmps51
    go_wp2
    go_returns
    exact ⟨ret_bool e.out.symm, rfl⟩
  · have e : Hid ((decide (lo ≤ n) && decide (n ≤ hi)) = false) := by show _ = _; simp [h]
    go_enter Tryd.func51, Tryd.ntmps51
    go_wp2
    go_returns
    exact ⟨ret_bool e.out.symm, rfl⟩
end Go.Proofs.YtgpblgalklegkaaDoor
