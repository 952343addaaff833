/- Three cells that hold ints, and what is written elsewhere. -/
import Derived.Test.YtdmpdcggepfaiaaDoorOwnG
import Derived.Test.YtdmpdcggepfaiaaDoorBl
namespace Go.Proofs.YtdmpdcggepfaiaaDoor
open Go.RowKit Go.Sort

/-- Three cells in a row that hold ints. -/
def Cel3 (w : World) (b : Nat) (x y z : Int) : Prop := w.cell? ⟨b, 0, none⟩ = some (.int .i64 x) ∧ w.cell? ⟨b, 1, none⟩ = some (.int .i64 y) ∧ w.cell? ⟨b, 2, none⟩ = some (.int .i64 z)
theorem Cel3.gr {w w' : World} {b : Nat} {x y z : Int} (h : Cel3 w b x y z) (g : Gr w w') : Cel3 w' b x y z := ⟨g.cell h.1, g.cell h.2.1, g.cell h.2.2⟩

theorem oth {W : World} {b i j : Nat} {v : Value} (h : i ≠ j) : (W.setCell ⟨b, i, none⟩ v).cell? ⟨b, j, none⟩ = W.cell? ⟨b, j, none⟩ := World.cell?_setCell_other _ _ _ _ (fun e => h (by cases e; rfl))
theorem sam {W : World} {a : Addr} {u v : Value} (h : W.cell? a = some u) : (W.setCell a v).cell? a = some v := World.cell?_setCell_same _ _ _ h
theorem Cel3.far {W : World} {b : Nat} {x y z : Int} (h : Cel3 W b x y z) {p : Addr} (hne : p.block ≠ b) (v : Value) : Cel3 (W.setCell p v) b x y z := by
  obtain ⟨h0, h1, h2⟩ := h
  have e : ∀ j, (W.setCell p v).cell? ⟨b, j, none⟩ = W.cell? ⟨b, j, none⟩ := fun j => World.cell?_setCell_other _ _ _ _ (fun e => hne (by rw [e]))
  exact ⟨(e 0).trans h0, (e 1).trans h1, (e 2).trans h2⟩
theorem Cel3.set3 {W : World} {b : Nat} {x0 y0 z0 : Int} (h : Cel3 W b x0 y0 z0) (x y z : Int) : Cel3 (((W.setCell ⟨b, 0, none⟩ (.int .i64 x)).setCell ⟨b, 1, none⟩ (.int .i64 y)).setCell ⟨b, 2, none⟩ (.int .i64 z)) b x y z := by
  obtain ⟨h0, h1, h2⟩ := h
  exact ⟨(oth (by decide)).trans ((oth (by decide)).trans (sam h0)), (oth (by decide)).trans (sam ((oth (by decide)).trans h1)), sam ((oth (by decide)).trans ((oth (by decide)).trans h2))⟩
theorem Cel3.far3 {W : World} {b n : Nat} {x y z : Int} (h : Cel3 W b x y z) (hne : n ≠ b) (u v w : Value) : Cel3 (((W.setCell ⟨n, 0, none⟩ u).setCell ⟨n, 1, none⟩ v).setCell ⟨n, 2, none⟩ w) b x y z :=
  ((h.far (p := ⟨n, 0, none⟩) hne u).far (p := ⟨n, 1, none⟩) hne v).far (p := ⟨n, 2, none⟩) hne w
theorem Cel3.bl {w w' : World} {b : Nat} {x y z : Int} (h : Cel3 w b x y z) (g : Bl w w') : Cel3 w' b x y z := ⟨g.cell h.1, g.cell h.2.1, g.cell h.2.2⟩
theorem cel0 {w : World} {b : Nat} (h0 : w.cell? ⟨b, 0, none⟩ = some (.int .i64 0)) (h1 : w.cell? ⟨b, 1, none⟩ = some (.int .i64 0)) (h2 : w.cell? ⟨b, 2, none⟩ = some (.int .i64 0)) : Cel3 w b 0 0 0 := ⟨h0, h1, h2⟩
theorem Cel3.lt {w : World} {b : Nat} {x y z : Int} (h : Cel3 w b x y z) : b < w.heap.size := World.block_lt_of_cell? _ _ h.1
theorem Cel3.new (w : World) (t : TypeId) (x y z : Int) : Cel3 (w.alloc (.cells #[.int .i64 x, .int .i64 y, .int .i64 z] t)) w.heap.size x y z := ⟨by simp, by simp, by simp⟩

/-- The cells of a local of three cells, behind calls of the reference. -/
theorem own3b {W W' : World} {n : Nat} {a b c : Value} {t : TypeId} (hn : n = W.heap.size) (h : Bl (W.alloc (.cells #[a, b, c] t)) W') :
    (W'.cell? ⟨n, 0, none⟩ = some a ∧ W'.cell? ⟨n, 1, none⟩ = some b ∧ W'.cell? ⟨n, 2, none⟩ = some c) ∧ W'.frozen? ⟨n, 0, none⟩ = false ∧ W'.frozen? ⟨n, 1, none⟩ = false ∧ W'.frozen? ⟨n, 2, none⟩ = false := by
  subst hn
  exact ⟨⟨h.cell (by simp), h.cell (by simp), h.cell (by simp)⟩, by rw [h.frozen (by simp)]; simp, by rw [h.frozen (by simp)]; simp, by rw [h.frozen (by simp)]; simp⟩
theorem set3b {w0 W' : World} {n : Nat} (hn : w0.heap.size ≤ n) (h : Bl w0 W') (x y z : Value) : Bl w0 (((W'.setCell ⟨n, 0, none⟩ x).setCell ⟨n, 1, none⟩ y).setCell ⟨n, 2, none⟩ z) :=
  ((h.setCell (p := ⟨n, 0, none⟩) hn x).setCell (p := ⟨n, 1, none⟩) hn y).setCell (p := ⟨n, 2, none⟩) hn z
end Go.Proofs.YtdmpdcggepfaiaaDoor
