/- Rows of ints that a call has made itself. -/
import Derived.Test.YtdienaigmkaheaaBl
import Derived.Test.YtdienaigmkaheaaProg
import Derived.Laws.OwnMore
namespace Go.Proofs.Ytdienaigmkaheaa
open Go.RowKit

theorem map_set_int {α : Type} (ds : List Int) (j : Nat) (n : Int) (f : Int → α) : (ds.map f).set j (f n) = (ds.set j n).map f := by rw [List.map_set]
theorem info_i : (Try.prog.info? 3).map (fun i => (i.zero, i.size, i.bytes)) = some (some (.int .i64 0), 1, 8) := by kernel_rfl

/-- A row of the call's own that holds digits. -/
def Own (W wr : World) (g cap : Nat) (ds : List Int) : Prop := wr.ownsRow W.heap.size 3 1 (.slice (some ⟨g, 0, none⟩) ds.length cap) ds.length (ds.map (Value.int .i64))
theorem Own.cell {W wr : World} {g cap : Nat} {ds : List Int} (h : Own W wr g cap ds) (j : Nat) (hj : j < ds.length) : wr.cell? ⟨g, j, none⟩ = some (.int .i64 (ds[j]?.getD 0)) := by
  rw [World.ownsRow.cellAt h j (by omega)]
  simp [hj]
theorem Own.free {W wr : World} {g cap : Nat} {ds : List Int} (h : Own W wr g cap ds) (j : Nat) : wr.frozen? ⟨g, j, none⟩ = false := World.ownsRow.frozenAt h j
theorem Own.base {W wr : World} {g cap : Nat} {ds : List Int} (h : Own W wr g cap ds) : W.heap.size ≤ g ∧ g < wr.heap.size := World.ownsRow.lt h g rfl
theorem Own.set {W wr : World} {g cap : Nat} {ds : List Int} (h : Own W wr g cap ds) (j : Nat) (n : Int) : Own W (wr.setCell ⟨g, j, none⟩ (.int .i64 n)) g cap (ds.set j n) := by
  have := (World.ownsRow.stored h j (.int .i64 n)).1
  unfold Own
  rw [map_set_int] at this
  rwa [List.length_set]
theorem Own.drewN {W wr : World} {g cap : Nat} {ds : List Int} (h : Own W wr g cap ds) (n : Nat) : Own W (wr.drewN n) g cap ds := h
theorem Own.slc {W wr : World} {g cap : Nat} {ds : List Int} (h : Own W wr g cap ds) : Slc wr (.slice (some ⟨g, 0, none⟩) ds.length cap) ds := slc_own h
/-- What the call writes into its own row changes nothing that was there. -/
theorem Own.bl {W wr : World} {g cap : Nat} {ds : List Int} (h : Own W wr g cap ds) (hb : Bl W wr) (j : Nat) (u : Value) : Bl W (wr.setCell ⟨g, j, none⟩ u) := hb.setCell h.base.1 u

/-- A row that was just made. -/
theorem own_made {W wr : World} {g L : Nat} (h : wr.ownsRow W.heap.size 3 1 (.slice (some ⟨g, 0, none⟩) L L) L (madeCells (Value.int .i64 0).cells (L * 1)).toList) : Own W wr g L (List.replicate L 0) := by
  unfold Own
  rw [List.length_replicate, List.map_replicate]
  rw [Nat.mul_one, show (Value.int .i64 0).cells = #[.int .i64 0] from rfl, toList_madeCells_one] at h
  exact h
end Go.Proofs.Ytdienaigmkaheaa
