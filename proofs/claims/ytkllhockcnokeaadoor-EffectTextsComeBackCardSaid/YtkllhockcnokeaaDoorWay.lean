/- The ways of curves: what the function that 'shape' returns gives. -/
import Derived.Test.YtkllhockcnokeaaDoorRest
namespace Go.Proofs.YtkllhockcnokeaaDoor
open Go.RowKit Go.Sort

/-- p p -/
theorem sq_le {p q : Int} (h0 : 0 ≤ p) (h1 : p ≤ q) : p * p ≤ q * q := Int.mul_le_mul h1 h1 h0 (by omega)
theorem sq_bd {q : Int} (h0 : 0 ≤ q) (h1 : q ≤ 36000000) : q * q ≤ 1296000000000000 := by
  have := sq_le h0 h1; omega

theorem soft_bd {p q : Int} (p0 : 0 ≤ p) (p1 : p ≤ q) (q1 : q ≤ 36000000) : 0 ≤ 3 * q - 2 * p ∧ 3 * q - 2 * p ≤ 108000000 ∧ 0 ≤ p * p ∧ p * p ≤ 1296000000000000 ∧ 0 ≤ q * q ∧ q * q ≤ 1296000000000000 :=
  ⟨by omega, by omega, Int.mul_nonneg p0 p0, by have := sq_le p0 p1; have := sq_bd (q := q) (by omega) q1; omega, Int.mul_nonneg (by omega) (by omega), sq_bd (by omega) q1⟩

end Go.Proofs.YtkllhockcnokeaaDoor
