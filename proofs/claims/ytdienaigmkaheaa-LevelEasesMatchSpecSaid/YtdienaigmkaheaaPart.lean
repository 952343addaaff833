/- isPart of the program. -/
import Derived.Test.YtdienaigmkaheaaOf
namespace Go.Proofs.Ytdienaigmkaheaa
open Go.RowKit

def isPt (p q : Int) : Bool := decide (1 ≤ q) && decide (q ≤ 36000000) && decide (0 ≤ p) && decide (p ≤ q)
theorem isPt_iff {p q : Int} : isPt p q = true ↔ 1 ≤ q ∧ q ≤ 36000000 ∧ 0 ≤ p ∧ p ≤ q := by unfold isPt; simp; omega
set_option maxHeartbeats 400000 in
theorem isPart_any (p q : Int) (w : World) :
    Calls Try.prog 23 #[.int .i64 p, .int .i64 q] w fun e w' => e = .returned (.bool (isPt p q)) ∧ w = w' := by
  by_cases h1 : 1 ≤ q
  · by_cases h2 : q ≤ 36000000
    · by_cases h3 : 0 ≤ p
      · have e : Hid (isPt p q = decide (p ≤ q)) := by show _ = _; unfold isPt; simp [h1, h2, h3]
        go_enter Try.func23, Try.ntmps23
        go_wp2
        go_returns
        exact ⟨ret_bool e.out.symm, rfl⟩
      · have e : Hid (isPt p q = false) := by show _ = _; unfold isPt; simp [h1, h2, h3]
        go_enter Try.func23, Try.ntmps23
        go_wp2
        go_returns
        exact ⟨ret_bool e.out.symm, rfl⟩
    · have e : Hid (isPt p q = false) := by show _ = _; unfold isPt; simp [h1, h2]
      go_enter Try.func23, Try.ntmps23
      go_wp2
      go_returns
      exact ⟨ret_bool e.out.symm, rfl⟩
  · have e : Hid (isPt p q = false) := by show _ = _; unfold isPt; simp [h1]
    go_enter Try.func23, Try.ntmps23
    go_wp2
    go_returns
    exact ⟨ret_bool e.out.symm, rfl⟩

end Go.Proofs.Ytdienaigmkaheaa
