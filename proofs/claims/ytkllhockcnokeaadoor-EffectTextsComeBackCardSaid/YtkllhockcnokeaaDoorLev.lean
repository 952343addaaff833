/- Levels: isLevel, areLevels. -/
import Derived.Test.YtkllhockcnokeaaDoorOf
import Derived.Test.YtkllhockcnokeaaDoorLevI
namespace Go.Proofs.YtkllhockcnokeaaDoor
open Go.RowKit Go.Sort

/-- Are the first k all levels? -/
def allLev (zs : List Int) (k : Nat) : Prop := ∀ i, i < k → isLev (zs[i]?.getD 0) = true
theorem allLev_iff (zs : List Int) (n : Nat) (h : n ≤ zs.length) : (zs.take n).all isLev = true ↔ allLev zs n := by
  rw [List.all_eq_true]
  constructor
  · intro H i hi
    apply H
    rw [List.getElem?_eq_getElem (by omega), Option.getD_some]
    exact List.mem_take_iff_getElem.2 ⟨i, by omega, rfl⟩
  · intro H x hx
    obtain ⟨i, hi, rfl⟩ := List.mem_take_iff_getElem.1 hx
    have := H i (by omega)
    rwa [List.getElem?_eq_getElem (by omega), Option.getD_some] at this

end Go.Proofs.YtkllhockcnokeaaDoor
