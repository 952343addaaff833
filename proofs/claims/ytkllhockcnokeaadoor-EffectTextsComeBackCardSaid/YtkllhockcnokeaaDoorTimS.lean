/- Times of package level: ShowTime. -/
import Derived.Test.YtkllhockcnokeaaDoorTimP
import Derived.Test.YtkllhockcnokeaaDoorItoa
namespace Go.Proofs.YtkllhockcnokeaaDoor
open Go.RowKit Go.Lib

theorem bs_tail (c : UInt8) (l : List UInt8) : (bs (c :: l)).extract 1 (bs (c :: l)).size = bs l := by
  apply Go.WideShapes.bytes_inj
  rw [Lib.extract_to_end, bs_list, bs_list]; rfl
theorem trim_len (p r : Nat) : (trimRightB (padD p r) 48).length ≤ p := by
  obtain ⟨k, h, _⟩ := trim_split (padD p r)
  have := congrArg List.length h
  rw [padD_len] at this
  simp at this
  omega
/-! ShowTime. -/
def stR (n : Int) : Ending := .returned (.tuple #[.string (bs (if isTm n = true then showT n.toNat else [])), .int .i64 (if isTm n = true then 0 else 1)])
theorem showD_len (n : Nat) (h : n < 60000) : (showD 3 n).length ≤ 10 := by
  unfold showD
  rw [show (10 : Nat) ^ 3 = 1000 from rfl]
  have h1 := dd_len (n / 1000) 2 (by decide) (by omega)
  have h2 := trim_len 3 (n % 1000)
  by_cases hz : n % 1000 = 0
  · rw [if_pos hz]; simp; omega
  · rw [if_neg hz]; simp; omega
end Go.Proofs.YtkllhockcnokeaaDoor
