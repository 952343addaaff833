/- A table that lies in memory stays there. -/
import Derived.Test.YtkllhockcnokeaaDoorBl
import Derived.Test.YtkllhockcnokeaaDoorLib
namespace Go.Proofs.YtkllhockcnokeaaDoor
open Go.RowKit Go.Lib

theorem tab_bl {w w' : World} {name : String} {k : IntKind} {zs : List Int} (h : TabIs Tryd.prog w name k zs) (g : Bl w w') : TabIs Tryd.prog w' name k zs := by
  unfold TabIs World.var? at h ⊢
  generalize Tryd.prog.globalNamed name = og at h ⊢
  cases og with
  | none => cases h
  | some b =>
    simp only [Option.bind_some] at h ⊢
    have hlt : b < w.heap.size := by
      rcases Nat.lt_or_ge b w.heap.size with hlt | hge
      · exact hlt
      · rw [Array.getElem?_eq_none hge] at h; cases h
    rw [g.block b hlt]
    exact h
end Go.Proofs.YtkllhockcnokeaaDoor
