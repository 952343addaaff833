/- The reference's fractions: Times, Over, Minus, Order, Floor, Round. -/
import Derived.Test.YtdmpdcggepfaiaaDoorFrP
namespace Go.Proofs.YtdmpdcggepfaiaaDoor
open Go.RowKit

theorem pw_le_big5 {N : Int} (h : N < pw 5) : N < pw 100000 := Int.lt_of_lt_of_le h (pw_mono (by omega))
theorem flag_mul {p1 p2 : Int} {n1 n2 : Bool} (ha : p1 ≠ 0 → n1 = decide (p1 < 0)) (hb : p2 ≠ 0 → n2 = decide (p2 < 0)) (h : p1 * p2 ≠ 0) : (n1 != n2) = decide (p1 * p2 < 0) := by
  have h1 : p1 ≠ 0 := by intro e; apply h; rw [e, Int.zero_mul]
  have h2 : p2 ≠ 0 := by intro e; apply h; rw [e, Int.mul_zero]
  rw [ha h1, hb h2]
  by_cases e1 : p1 < 0
  · by_cases e2 : p2 < 0
    · have := Int.mul_pos_of_neg_of_neg e1 e2
      simp [e1, e2]; omega
    · have := Int.mul_neg_of_neg_of_pos e1 (show 0 < p2 by omega)
      simp [e1, e2, this]
  · by_cases e2 : p2 < 0
    · have := Int.mul_neg_of_pos_of_neg (show 0 < p1 by omega) e2
      simp [e1, e2, this]
    · have := Int.mul_pos (show 0 < p1 by omega) (show 0 < p2 by omega)
      simp [e1, e2]; omega
theorem flag_over {p1 p2 q2 : Int} {n1 n2 : Bool} (ha : p1 ≠ 0 → n1 = decide (p1 < 0)) (hb : p2 ≠ 0 → n2 = decide (p2 < 0)) (h0 : 0 < p2) (hq : 0 < q2) (h : p1 * q2 ≠ 0) : (n1 != n2) = decide (p1 * q2 < 0) := by
  have h1 : p1 ≠ 0 := by intro e; apply h; rw [e, Int.zero_mul]
  have hn : n2 = false := by rw [hb (by omega)]; simp; omega
  obtain ⟨_, s2, _⟩ := sgn_mul (p := p1) hq
  rw [ha h1, hn, Bool.eq_iff_iff]
  simp [s2]

end Go.Proofs.YtdmpdcggepfaiaaDoor
