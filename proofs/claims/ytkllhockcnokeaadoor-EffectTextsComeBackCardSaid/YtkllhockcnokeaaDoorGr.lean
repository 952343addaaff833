/- What a call of this program does to the world: it draws, and lays blocks of its own behind; nothing that was there turns. -/
import Derived.WalkKit
import Derived.Shelf.SlSorted.Search
namespace Go.Proofs.YtkllhockcnokeaaDoor
open Go.RowKit Go.Sort
/-- Draws and new blocks alone. -/
def Gr (w w' : World) : Prop := Below w.heap.size w w' ∧ w.drawn ≤ w'.drawn

theorem Gr.refl (w : World) : Gr w w := ⟨Below.refl _ _, Nat.le_refl _⟩
theorem Gr.size {w w' : World} (h : Gr w w') : w.heap.size ≤ w'.heap.size := h.1.size
theorem Gr.trans {a b c : World} (h : Gr a b) (k : Gr b c) : Gr a c := ⟨h.1.trans (k.1.mono h.1.size), Nat.le_trans h.2 k.2⟩
theorem Gr.alloc {a w : World} (h : Gr a w) (o : Obj) : Gr a (w.alloc o) := ⟨h.1.alloc h.1.size o, h.2⟩
theorem Gr.drew {a w : World} (h : Gr a w) : Gr a w.drew := ⟨h.1.drew, Nat.le_trans h.2 (Nat.le_succ _)⟩
theorem Gr.drewN {a w : World} (h : Gr a w) (n : Nat) : Gr a (w.drewN n) := ⟨⟨h.1.os, h.1.tape, h.1.output, h.1.size, h.1.block⟩, Nat.le_trans h.2 (Nat.le_add_right _ _)⟩
theorem Gr.setCell {a w : World} (h : Gr a w) {p : Addr} (hp : a.heap.size ≤ p.block) (u : Value) : Gr a (w.setCell p u) := ⟨h.1.setCell hp u, h.2⟩
theorem Gr.grown {a w : World} (h : Gr a w) (os : Array Obj) : Gr a (Go.Sort.grow w os) := by
  refine h.trans ⟨⟨rfl, rfl, rfl, by simp, fun i hi => ?_⟩, Nat.le_refl _⟩
  show (w.heap ++ os)[i]? = _
  rw [Array.getElem?_append_left hi]
/-- The world, written out. -/
theorem Gr.out {w w' : World} (h : Gr w w') : ∃ q os, w' = Go.Sort.grow (w.drewN q) os := by
  obtain ⟨⟨h1, h2, h3, h4, h5⟩, h6⟩ := h
  refine ⟨w'.drawn - w.drawn, w'.heap.extract w.heap.size w'.heap.size, ?_⟩
  obtain ⟨hp, tp, dr, os, ou⟩ := w'
  simp only at h1 h2 h3 h4 h5 h6
  subst h1 h2 h3
  have e1 : hp = w.heap ++ hp.extract w.heap.size hp.size := by
    apply Array.ext_getElem?
    intro i
    rw [Array.getElem?_append]
    split
    · exact h5 i ‹_›
    · rw [Array.getElem?_extract]
      by_cases hi : i < hp.size
      · rw [if_pos (by omega)]; congr 1; omega
      · rw [if_neg (by omega), Array.getElem?_eq_none (by omega)]
  show World.mk _ _ _ _ _ = World.mk _ _ _ _ _
  congr 1
  show dr = w.drawn + (dr - w.drawn)
  omega
theorem Gr.of_grow {w w' : World} (h : ∃ q os, w' = Go.Sort.grow (w.drewN q) os) : Gr w w' := by
  obtain ⟨q, os, rfl⟩ := h
  exact ((Gr.refl w).drewN q).grown os
theorem Gr.cell {w w' : World} (h : Gr w w') {p : Addr} {v : Value} (hc : w.cell? p = some v) : w'.cell? p = some v := by
  rw [h.1.cell (World.block_lt_of_cell? _ _ hc)]; exact hc
theorem Gr.frozen {w w' : World} (h : Gr w w') {p : Addr} (hp : p.block < w.heap.size) : w'.frozen? p = w.frozen? p := h.1.frozen hp
theorem Gr.frame {W w' : World} (h : Gr W w') (may : MemPlace → Prop) : W.keptBut w' may := h.1.frame may
end Go.Proofs.YtkllhockcnokeaaDoor
