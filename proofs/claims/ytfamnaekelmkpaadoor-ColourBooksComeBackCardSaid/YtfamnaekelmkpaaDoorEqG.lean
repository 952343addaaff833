/- slices.Equal of two books that read the same. -/
import Derived.Test.YtfamnaekelmkpaaDoorGelM
import Derived.Test.YtfamnaekelmkpaaDoorRet
import Derived.Deep.QuietTactic
namespace Go.Proofs.YtfamnaekelmkpaaDoor
open Go.RowKit Go.Sort

set_option maxRecDepth 100000 in
set_option maxHeartbeats 3200000 in
theorem equal_gels (v u : Value) (L : List Gel) (w : World) (hv : GelVal w v L) (hu : GelVal w u L) :
    Calls Tryd.prog 14 #[v, u] w fun e w' => e = .returned (.bool true) ∧ ∃ q, w' = w.drewN q := by
  obtain ⟨o, cap, rfl, hm, hp⟩ := hv
  obtain ⟨o2, cap2, rfl, _, hp2⟩ := hu
  have HP := Lib.hid hp
  have HP2 := Lib.hid hp2
  clear hp hp2
  go_enter Tryd.func14, Tryd.ntmps14
  go_wp2
  go_loopw [13] (fun vi wr => ∃ k q : Nat, k ≤ L.length ∧ vi = .int .i64 k ∧ wr = w.drewN q) (fun vi _ => L.length - (intOf vi).toNat)
  case atStart => exact ⟨0, 0, Nat.zero_le _, rfl, (World.drewN_zero w).symm⟩
  case round =>
    obtain ⟨k, q, hk, rfl, rfl⟩ := hrel
    by_cases hlt : k < L.length
    · obtain ⟨b, off, rfl, hL⟩ := HP.out (by omega)
      obtain ⟨b2, off2, rfl, hL2⟩ := HP2.out (by omega)
      obtain ⟨c0, c1, c2, c3, c4⟩ := hL k hlt
      obtain ⟨d0, d1, d2, d3, d4⟩ := hL2 k hlt
      obtain ⟨x, hx⟩ : ∃ x, x = L[k] := ⟨_, rfl⟩
      rw [← hx] at c0 c1 c2 c3 c4 d0 d1 d2 d3 d4
      clear hx hL hL2
      have k1 : (k : Int) < (L.length : Int) := by omega
      have t1 : (x.n == x.n) = true := by simp
      have t2 : (x.name.toList == x.name.toList) = true := by simp
      have t3 : (x.r == x.r) = true := by simp
      have t4 : (x.g == x.g) = true := by simp
      have t5 : (x.b == x.b) = true := by simp
      go_wp2
      go_quiet (fail)
      go_wp2
      exact ⟨⟨k + 1, q + nq, by omega, by congr 1, rfl⟩, by simp [intOf]; omega⟩
    · obtain rfl : k = L.length := by omega
      go_wp2
      go_ret
      exact ⟨rfl, q, rfl⟩
end Go.Proofs.YtfamnaekelmkpaaDoor
