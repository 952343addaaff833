/- Blocks of a call's own, read and written behind calls that only lay new blocks. -/
import Derived.Test.YtfamnaekelmkpaaGreatDoorGr
import Derived.Deep.QuietTactic
namespace Go.Proofs.YtfamnaekelmkpaaGreatDoor
open Go.RowKit Go.Sort
/-- The cells of a local of three cells, behind calls. -/
theorem own3g {W W' : World} {n : Nat} {a b c : Value} {t : TypeId} (hn : n = W.heap.size) (h : Gr (W.alloc (.cells #[a, b, c] t)) W') :
    (W'.cell? ⟨n, 0, none⟩ = some a ∧ W'.cell? ⟨n, 1, none⟩ = some b ∧ W'.cell? ⟨n, 2, none⟩ = some c) ∧ W'.frozen? ⟨n, 0, none⟩ = false ∧ W'.frozen? ⟨n, 1, none⟩ = false ∧ W'.frozen? ⟨n, 2, none⟩ = false := by
  subst hn
  exact ⟨⟨h.cell (by simp), h.cell (by simp), h.cell (by simp)⟩, by rw [h.frozen (by simp)]; simp, by rw [h.frozen (by simp)]; simp, by rw [h.frozen (by simp)]; simp⟩
/-- A block that is written in three cells, which lies behind where it began. -/
theorem set3g {w0 W' : World} {n : Nat} (hn : w0.heap.size ≤ n) (h : Gr w0 W') (x y z : Value) : Gr w0 (((W'.setCell ⟨n, 0, none⟩ x).setCell ⟨n, 1, none⟩ y).setCell ⟨n, 2, none⟩ z) :=
  ((h.setCell (p := ⟨n, 0, none⟩) hn x).setCell (p := ⟨n, 1, none⟩) hn y).setCell (p := ⟨n, 2, none⟩) hn z
/-- One cell of a local. -/
theorem own1g {W W' : World} {n : Nat} {a : Value} {t : TypeId} (hn : n = W.heap.size) (h : Gr (W.alloc (.cells #[a] t)) W') : W'.cell? ⟨n, 0, none⟩ = some a ∧ W'.frozen? ⟨n, 0, none⟩ = false := by
  subst hn; exact ⟨h.cell (by simp), by rw [h.frozen (by simp)]; simp⟩
/-- A call that leaves the world as it was, within a drawn region that stands behind another one. -/
theorem second_quiet {P : Program} {f : FuncId} {args : Array Value} {w : World} {a n : Nat} {v : Value} {W : World} (hW : W = w.drewN (a + n))
    (h : Calls P f args W fun e w' => e = .returned v ∧ w' = W) : Calls P f args W fun e w'' => e = .returned v ∧ ∃ m, w'' = w.drewN (a + m) := by
  refine h.mono ?_
  rintro e w' ⟨he, rfl⟩
  exact ⟨he, n, hW⟩
end Go.Proofs.YtfamnaekelmkpaaGreatDoor
