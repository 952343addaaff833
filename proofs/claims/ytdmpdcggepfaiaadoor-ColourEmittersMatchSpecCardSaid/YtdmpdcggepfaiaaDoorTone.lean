/- Tones of the program: hueOf, toneOf. -/
import Derived.Test.YtdmpdcggepfaiaaDoorCol
import Derived.Test.YtdmpdcggepfaiaaDoorOwnG
import Derived.Deep.QuietTactic
import Derived.BigQuiet
namespace Go.Proofs.YtdmpdcggepfaiaaDoor
open Go.RowKit Go.Sort

theorem run_mx3 (ts : Array TypeId) (t : TypeId) (x y z : Int) (w : World) : (Builtin.max_ ts t #[.int .i64 x, .int .i64 y, .int .i64 z]).run Tryd.prog w = .ok (.int .i64 (mx3 x y z)) w := by
  have e : (if z > (if y > x then y else x) then z else (if y > x then y else x)) = mx3 x y z := by
    unfold mx3; rw [Int.max_def, Int.max_def]; repeat' split
    all_goals omega
  rw [← e]; simp [Builtin.max_, Builtin.max2]
theorem run_mn3 (ts : Array TypeId) (t : TypeId) (x y z : Int) (w : World) : (Builtin.min_ ts t #[.int .i64 x, .int .i64 y, .int .i64 z]).run Tryd.prog w = .ok (.int .i64 (mn3 x y z)) w := by
  have e : (if z < (if y < x then y else x) then z else (if y < x then y else x)) = mn3 x y z := by
    unfold mn3; rw [Int.min_def, Int.min_def]; repeat' split
    all_goals omega
  rw [← e]; simp [Builtin.min_, Builtin.min2]

theorem hue_bd {d x : Int} (hd : 0 < d) (hd1 : d ≤ 65535) (h1 : -d ≤ x) (h2 : x ≤ d) (k : Int) (k1 : 1 ≤ k) (k2 : k ≤ 6) :
    IntKind.i64.wrap (k * d) = k * d ∧ 0 ≤ k * d + x ∧ k * d + x ≤ 458745 := by
  have a1 := Int.mul_le_mul_of_nonneg_right k1 (Int.le_of_lt hd)
  have a2 := Int.mul_le_mul_of_nonneg_right k2 (Int.le_of_lt hd)
  exact ⟨IntWalk.i64_in _ (by omega), by omega, by omega⟩

/-- A tone, as a value. -/
def tonV (t : Int × Int × Int) : Value := .agg #[.int .i64 t.1, .int .i64 t.2.1, .int .i64 t.2.2]

end Go.Proofs.YtdmpdcggepfaiaaDoor
