/- Rows of texts that a call has made itself. -/
import Derived.Test.YtgpblgalklegkaaDoorBl
import Derived.Test.YtgpblgalklegkaaDoorShelf
import Derived.Laws.OwnMore
namespace Go.Proofs.YtgpblgalklegkaaDoor
open Go.RowKit

theorem info_s : (Tryd.prog.info? 9).map (fun i => (i.zero, i.size, i.bytes)) = some (some (.string ⟨#[]⟩), 1, 16) := by kernel_rfl
/-- A row of the call's own that holds texts. -/
def OwnT (W wr : World) (g cap : Nat) (ds : List ByteArray) : Prop := wr.ownsRow W.heap.size 9 1 (.slice (some ⟨g, 0, none⟩) ds.length cap) ds.length (ds.map Value.string)
theorem OwnT.cell {W wr : World} {g cap : Nat} {ds : List ByteArray} (h : OwnT W wr g cap ds) (j : Nat) (hj : j < ds.length) : wr.cell? ⟨g, j, none⟩ = some (.string (ds[j]?.getD ⟨#[]⟩)) := by
  rw [World.ownsRow.cellAt h j (by omega)]
  simp [hj]
theorem OwnT.free {W wr : World} {g cap : Nat} {ds : List ByteArray} (h : OwnT W wr g cap ds) (j : Nat) : wr.frozen? ⟨g, j, none⟩ = false := World.ownsRow.frozenAt h j
theorem OwnT.base {W wr : World} {g cap : Nat} {ds : List ByteArray} (h : OwnT W wr g cap ds) : W.heap.size ≤ g ∧ g < wr.heap.size := World.ownsRow.lt h g rfl
theorem OwnT.set {W wr : World} {g cap : Nat} {ds : List ByteArray} (h : OwnT W wr g cap ds) (j : Nat) (s : ByteArray) : OwnT W (wr.setCell ⟨g, j, none⟩ (.string s)) g cap (ds.set j s) := by
  have := (World.ownsRow.stored h j (.string s)).1
  unfold OwnT
  rw [← List.map_set] at this
  rwa [List.length_set]
theorem OwnT.bl {W wr : World} {g cap : Nat} {ds : List ByteArray} (h : OwnT W wr g cap ds) (hb : Bl W wr) (j : Nat) (u : Value) : Bl W (wr.setCell ⟨g, j, none⟩ u) := hb.setCell h.base.1 u
theorem OwnT.far {W w w' : World} {g cap : Nat} {ds : List ByteArray} (h : OwnT W w g cap ds) (gb : Bl w w') : OwnT W w' g cap ds :=
  World.ownsRow.kept (row := none) h ⟨gb.os, gb.tape, gb.output, gb.size, fun k hk _ => gb.block k hk⟩ (by cases hv : Value.ownBlock _ <;> simp)
/-- A row that was just made. -/
theorem ownT_made {W wr : World} {g L : Nat} (h : wr.ownsRow W.heap.size 9 1 (.slice (some ⟨g, 0, none⟩) L L) L (madeCells (Value.string ⟨#[]⟩).cells (L * 1)).toList) : OwnT W wr g L (List.replicate L ⟨#[]⟩) := by
  unfold OwnT
  rw [List.length_replicate, List.map_replicate]
  rw [Nat.mul_one, show (Value.string ⟨#[]⟩).cells = #[.string ⟨#[]⟩] from rfl, toList_madeCells_one] at h
  exact h
end Go.Proofs.YtgpblgalklegkaaDoor
