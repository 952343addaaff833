/- Fractions of package level: minus, rest, between. -/
import Derived.Test.YtkllhockcnokeaaDoorOf
namespace Go.Proofs.YtkllhockcnokeaaDoor
open Go.RowKit Go.Sort

def sHi (x y b : Nat) : Nat := if x < y + b then 1 else 0
def sLo (x y b : Nat) : Nat := (x + 18446744073709551616 - y - b) % 18446744073709551616
theorem sHi_le (x y b : Nat) : sHi x y b ≤ 1 := by unfold sHi; split <;> omega
theorem sub_eq (x y x' y' : Nat) (h1 : x ≤ 18446744073709551615) (h2 : y ≤ 18446744073709551615) (h3 : x' ≤ 18446744073709551615) (h4 : y' ≤ 18446744073709551615)
    (h : (x' : Int) * 18446744073709551616 + y' ≤ x * 18446744073709551616 + y) :
    (sLo x x' (sHi y y' 0) : Int) * 18446744073709551616 + (sLo y y' 0 : Int) = (x : Int) * 18446744073709551616 + y - (x' * 18446744073709551616 + y') := by
  unfold sLo sHi
  by_cases hy : y < y' + 0
  · rw [if_pos hy]; omega
  · rw [if_neg hy]; omega
theorem sLo_le (x y b : Nat) : sLo x y b ≤ 18446744073709551615 := by unfold sLo; omega

theorem own4f {w W : World} {a b c d : Value} {t : TypeId} (h : Gr (w.alloc (.cells #[a, b, c, d] t)) W) (j : Nat) : W.frozen? ⟨w.heap.size, j, none⟩ = false := by
  rw [h.frozen (by simp)]; simp

/-- The number between a and b. -/
def btw (N D a b : Int) : Int := if b < a then b + rnd (D - N) D (a - b) else a + rnd N D (b - a)

end Go.Proofs.YtkllhockcnokeaaDoor
