/- The ways of curves: what the function that 'shape' returns gives. -/
import Derived.Test.YtdienaigmkaheaaRest
namespace Go.Proofs.Ytdienaigmkaheaa
open Go.RowKit Go.Sort

/-- p p -/
theorem sq_le {p q : Int} (h0 : 0 ≤ p) (h1 : p ≤ q) : p * p ≤ q * q := Int.mul_le_mul h1 h1 h0 (by omega)
theorem sq_bd {q : Int} (h0 : 0 ≤ q) (h1 : q ≤ 36000000) : q * q ≤ 1296000000000000 := by
  have := sq_le h0 h1; omega

set_option maxHeartbeats 400000 in
theorem slow_any (p q : Int) (w : World) (p0 : 0 ≤ p) (p1 : p ≤ q) (q1 : q ≤ 36000000) :
    Calls Try.prog 46 #[.int .i64 p, .int .i64 q] w (PRa (p * p) (q * q) w) := by
  go_enter Try.func46, Try.ntmps46
  go_wp2_with fail
  refine (product_any p p _ p0 (by omega) p0 (by omega)).mono ?_
  rintro e w1 ⟨h, l, rfl, H, rfl⟩
  go_wp2_with fail
  refine (product_any q q _ (by omega) (by omega) (by omega) (by omega)).mono ?_
  rintro e w2 ⟨h', l', rfl, H', rfl⟩
  go_wp2_with fail
  go_returns
  exact ⟨_, _, _, _, rfl, ⟨H, H'⟩, (((Gr.refl w).alloc _).alloc _).alloc _⟩

set_option maxHeartbeats 400000 in
theorem fast_any (p q : Int) (w : World) (p0 : 0 ≤ p) (p1 : p ≤ q) (q1 : q ≤ 36000000) :
    Calls Try.prog 47 #[.int .i64 p, .int .i64 q] w (PRa (q * q - (q - p) * (q - p)) (q * q) w) := by
  go_enter Try.func47, Try.ntmps47
  go_wp2_with fail
  refine (slow_any (q - p) q _ (by omega) (by omega) q1).mono ?_
  rintro e w1 ⟨nh, nl, dh, dl, rfl, HH, hg⟩
  go_wp2_with fail
  refine (rest_any nh nl dh dl _ _ _ HH.1 HH.2 (sq_le (by omega) (by omega))).mono ?_
  rintro e w2 ⟨nh', nl', dh', dl', rfl, HH', hg'⟩
  have hgg := hg.trans hg'
  obtain ⟨k0, k1, k2, k3⟩ := own4 hgg
  have f0 := own4f hgg 0
  have f1 := own4f hgg 1
  have f2 := own4f hgg 2
  have f3 := own4f hgg 3
  go_wp2_with fail
  refine bodyPost_ret (v := .agg #[.int .u64 nh', .int .u64 nl', .int .u64 dh', .int .u64 dl']) (by simp [results, Try.results47, go_sem, k0, k1, k2, k3]) rfl ⟨_, _, _, _, rfl, HH', ?_⟩
  exact (((((((Gr.refl w).alloc _).trans hgg).setCell (Nat.le_refl _) _).setCell (Nat.le_refl _) _).setCell (Nat.le_refl _) _).setCell (Nat.le_refl _) _)

theorem soft_bd {p q : Int} (p0 : 0 ≤ p) (p1 : p ≤ q) (q1 : q ≤ 36000000) : 0 ≤ 3 * q - 2 * p ∧ 3 * q - 2 * p ≤ 108000000 ∧ 0 ≤ p * p ∧ p * p ≤ 1296000000000000 ∧ 0 ≤ q * q ∧ q * q ≤ 1296000000000000 :=
  ⟨by omega, by omega, Int.mul_nonneg p0 p0, by have := sq_le p0 p1; have := sq_bd (q := q) (by omega) q1; omega, Int.mul_nonneg (by omega) (by omega), sq_bd (by omega) q1⟩

set_option maxHeartbeats 400000 in
theorem soft_any (p q : Int) (w : World) (p0 : 0 ≤ p) (p1 : p ≤ q) (q1 : q ≤ 36000000) :
    Calls Try.prog 48 #[.int .i64 p, .int .i64 q] w (PRa (p * p * (3 * q - 2 * p)) (q * q * q) w) := by
  obtain ⟨b1, b2, b3, b4, b5, b6⟩ := soft_bd p0 p1 q1
  go_enter Try.func48, Try.ntmps48
  go_wp2_with fail
  refine (product_any (p * p) (3 * q - 2 * p) _ b3 (by omega) b1 (by omega)).mono ?_
  rintro e w1 ⟨h, l, rfl, H, rfl⟩
  go_wp2_with fail
  refine (product_any (q * q) q _ b5 (by omega) (by omega) (by omega)).mono ?_
  rintro e w2 ⟨h', l', rfl, H', rfl⟩
  go_wp2_with fail
  go_returns
  exact ⟨_, _, _, _, rfl, ⟨H, H'⟩, (((Gr.refl w).alloc _).alloc _).alloc _⟩

set_option maxHeartbeats 400000 in
theorem step_any (p q : Int) (w : World) (p0 : 0 ≤ p) (p1 : p ≤ q) (q0 : 1 ≤ q) (q1 : q ≤ 36000000) :
    Calls Try.prog 49 #[.int .i64 p, .int .i64 q] w (PRa (p / q) 1 w) := by
  have d0 : 0 ≤ p / q := Int.ediv_nonneg p0 (by omega)
  have d1 : p / q ≤ p := Int.ediv_le_self _ p0
  go_enter Try.func49, Try.ntmps49
  go_wp2_with fail
  refine (share_any (p / q) 1 _ d0 (by omega) (by omega) (by omega)).mono ?_
  rintro e w2 ⟨nh', nl', dh', dl', rfl, HH', hgg⟩
  obtain ⟨k0, k1, k2, k3⟩ := own4 hgg
  have f0 := own4f hgg 0
  have f1 := own4f hgg 1
  have f2 := own4f hgg 2
  have f3 := own4f hgg 3
  go_wp2_with fail
  refine bodyPost_ret (v := .agg #[.int .u64 nh', .int .u64 nl', .int .u64 dh', .int .u64 dl']) (by simp [results, Try.results49, go_sem, k0, k1, k2, k3]) rfl ⟨_, _, _, _, rfl, HH', ?_⟩
  exact (((((((Gr.refl w).alloc _).trans hgg).setCell (Nat.le_refl _) _).setCell (Nat.le_refl _) _).setCell (Nat.le_refl _) _).setCell (Nat.le_refl _) _)

end Go.Proofs.Ytdienaigmkaheaa
