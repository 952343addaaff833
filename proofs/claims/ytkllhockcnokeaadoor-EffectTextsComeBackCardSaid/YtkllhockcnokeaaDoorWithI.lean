/- The reference: Within, IsLevel. -/
import Derived.Test.YtkllhockcnokeaaDoorLevI
namespace Go.Proofs.YtkllhockcnokeaaDoor
open Go.RowKit

set_option maxHeartbeats 400000 in
theorem within_any (n lo hi : Int) (w : World) :
    Calls Tryd.prog 26 #[.int .i64 n, .int .i64 lo, .int .i64 hi] w fun e w' => e = .returned (.bool (decide (lo ≤ n) && decide (n ≤ hi))) ∧ w = w' := by
  by_cases h : lo ≤ n
  · have e : Hid ((decide (lo ≤ n) && decide (n ≤ hi)) = decide (n ≤ hi)) := by show _ = _; simp [h]
    go_enter Tryd.func26, Tryd.ntmps26
    go_wp2
    go_returns
    exact ⟨ret_bool e.out.symm, rfl⟩
  · have e : Hid ((decide (lo ≤ n) && decide (n ≤ hi)) = false) := by show _ = _; simp [h]
    go_enter Tryd.func26, Tryd.ntmps26
    go_wp2
    go_returns
    exact ⟨ret_bool e.out.symm, rfl⟩
set_option maxHeartbeats 400000 in
theorem isLevel_ref (n : Int) (w : World) :
    Calls Tryd.prog 27 #[.int .i64 n] w fun e w' => e = .returned (.bool (isLev n)) ∧ w = w' := by
  go_enter Tryd.func27, Tryd.ntmps27
  go_wp2_with fail
  refine (within_any n 0 65535 _).mono ?_
  rintro e w' ⟨rfl, rfl⟩
  go_wp2_with fail
  go_returns
  exact ⟨rfl, rfl⟩

end Go.Proofs.YtkllhockcnokeaaDoor
