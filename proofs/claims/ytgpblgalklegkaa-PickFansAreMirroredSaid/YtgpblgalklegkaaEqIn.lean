/- Equal of two slices of the same ints. -/
import Derived.Test.YtgpblgalklegkaaBl
import Derived.Test.YtgpblgalklegkaaShelf
import Derived.Deep.QuietTactic
namespace Go.Proofs.Ytgpblgalklegkaa
open Go.RowKit Go.Sort

set_option maxRecDepth 100000 in
set_option maxHeartbeats 3200000 in
/-- Equal of two slices of the same ints. -/
theorem equal_ints (va vb : Value) (xs : List Int) (w : World) (ha : Slc w va xs) (hb : Slc w vb xs) :
    Calls Try.prog 10 #[va, vb] w fun e w' => e = .returned (.bool true) ∧ Bl w w' := by
  obtain ⟨oa, ca, rfl, ⟨la, la'⟩, ha⟩ := ha
  obtain ⟨ob, cb, rfl, ⟨lb, lb'⟩, hb⟩ := hb
  have HA := Lib.hid ha
  have HB := Lib.hid hb
  have t1 : ((xs.length : Int) != (xs.length : Int)) = false := by simp
  have mixed : Try.prog.follows .mixedOrders = true := by kernel_rfl
  clear ha hb
  go_enter Try.func10, Try.ntmps10
  go_wp2
  go_loopw [13] (fun i wr => ∃ k : Nat, k ≤ xs.length ∧ i = .int .i64 k ∧ Bl w wr) (fun i _ => xs.length - (intOf i).toNat)
  case atStart => exact ⟨0, Nat.zero_le _, rfl, Bl.refl w⟩
  case round =>
    obtain ⟨k, hk, rfl, hg⟩ := hrel
    by_cases hlt : k < xs.length
    · obtain ⟨b1, o1, rfl, h1⟩ := HA.out k hlt
      obtain ⟨b2, o2, rfl, h2⟩ := HB.out k hlt
      have c1 := hg.cell h1
      have c2 := hg.cell h2
      generalize xs[k]?.getD 0 = x at *
      have t2 : (x != x) = false := by simp
      clear h1 h2
      go_wp2
      go_quiet (fail)
      go_wp2
      go_roundw
      case rel => exact ⟨k + 1, by omega, by go_num, hg.drewN _⟩
      case measure => simp [intOf]; omega
    · go_wp2
      go_returns
      exact ⟨rfl, hg⟩

theorem equal_none (o1 o2 : Option Addr) (c1 c2 : Nat) (w : World) :
    Calls Try.prog 10 #[.slice o1 0 c1, .slice o2 0 c2] w fun e w' => e = .returned (.bool true) ∧ w' = w := by
  go_enter Try.func10, Try.ntmps10
  go_wp2
  refine wp_loop_rounds 1 ?_
  rw [rounds_succ]
  go_wp2
  go_returns
  exact ⟨rfl, rfl⟩
end Go.Proofs.Ytgpblgalklegkaa
