/- Worlds in which one block has been written: what stays. -/
import Derived.Test.YtkllhockcnokeaaDoorSpl
namespace Go.Proofs.YtkllhockcnokeaaDoor
open Go.RowKit Go.Lib Go.Sort

theorem grown_frozen {w w' : World} {n : Nat} (g : w.grownBy w' (some n)) {b i : Nat} (hb : b ≠ n) (hlt : b < w.heap.size) : w'.frozen? ⟨b, i, none⟩ = w.frozen? ⟨b, i, none⟩ := by
  have h := g.block b hlt (fun e => hb (by cases e; rfl))
  unfold World.frozen?
  rw [h]
theorem grown_new3 {w w' : World} {n : Nat} {x y z : Value} {t : TypeId} (g : (w.alloc (.cells #[x, y, z] t)).grownBy w' (some n)) (hb : w.heap.size ≠ n) :
    w'.cell? ⟨w.heap.size, 0, none⟩ = some x ∧ w'.cell? ⟨w.heap.size, 1, none⟩ = some y ∧ w'.cell? ⟨w.heap.size, 2, none⟩ = some z ∧
    w'.frozen? ⟨w.heap.size, 0, none⟩ = false ∧ w'.frozen? ⟨w.heap.size, 1, none⟩ = false ∧ w'.frozen? ⟨w.heap.size, 2, none⟩ = false ∧ w.heap.size < w'.heap.size := by
  refine ⟨grown_cell g hb (by simp), grown_cell g hb (by simp), grown_cell g hb (by simp), ?_, ?_, ?_, by have := g.size; simp at this; omega⟩
  all_goals exact (grown_frozen g hb (by simp)).trans (by simp)
theorem alloc_grown {w w' : World} {n : Nat} {o : Obj} (g : (w.alloc o).grownBy w' (some n)) : w.grownBy w' (some n) := (bl_grown ((Bl.refl w).alloc o) n).trans g
theorem LineV.int {w : World} {n N i : Nat} {ws : List (List UInt8)} {x : Bool} (h : LineV w n ws x) (hN : N ≠ n) {z : Int} (hc : w.cell? ⟨N, i, none⟩ = some (.int .i64 z)) (u : Value) : LineV (w.setCell ⟨N, i, none⟩ u) n ws x := by
  obtain ⟨h1, h2, h3, v, h4, o, cap, h5, h6, h7, h8⟩ := h
  have e : ∀ j, (w.setCell ⟨N, i, none⟩ u).cell? ⟨n, j, none⟩ = w.cell? ⟨n, j, none⟩ := fun j => World.cell?_setCell_other _ _ _ _ (by intro he; injection he with h1 h2; exact hN h1)
  refine ⟨by rw [e]; exact h1, by rw [World.frozen?_setCell]; exact h2, by rw [World.frozen?_setCell]; exact h3, v, by rw [e]; exact h4, o, cap, h5, h6, h7, fun hp => ?_⟩
  obtain ⟨b, off, g1, g2, g3⟩ := h8 hp
  refine ⟨b, off, g1, g2, fun k hk => ?_⟩
  have hw := g3 k hk
  rw [World.cell?_setCell_other _ _ _ _ ?_]
  · exact hw
  · intro he
    injection he with h1 h2
    subst h1 h2
    rw [hc] at hw; cases hw
theorem grown_set_new {w w' : World} {n N i : Nat} (g : w.grownBy w' (some n)) (hN : w.heap.size ≤ N) (u : Value) : w.grownBy (w'.setCell ⟨N, i, none⟩ u) (some n) :=
  ⟨g.os, g.tape, g.output, by simpa using g.size, fun k hk hne => by rw [Below.heap_setCell _ _ _ _ (show k ≠ (⟨N, i, none⟩ : Addr).block by show k ≠ N; omega)]; exact g.block k hk hne⟩
end Go.Proofs.YtkllhockcnokeaaDoor
