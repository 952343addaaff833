/- Boxes that a call lays, and what they hold later; points that came in, later. -/
import Derived.Test.YtdienaigmkaheaaCheck
import Derived.Test.YtdienaigmkaheaaBl
namespace Go.Proofs.Ytdienaigmkaheaa
open Go.RowKit

theorem PtsAny.bl {w w' : World} {sv : Value} {l : List (Int × Int)} (h : PtsAny w sv l) (g : Bl w w') : PtsAny w' sv l := by
  rcases h with h | ⟨b, off, cap, h1, h2, h3⟩
  · exact Or.inl h
  · exact Or.inr ⟨b, off, cap, h1, h2.bl g, h3⟩
theorem PtsAny.form {w : World} {sv : Value} {l : List (Int × Int)} (h : PtsAny w sv l) : ∃ o n c, sv = .slice o n c := by
  rcases h with ⟨o, cap, h, _⟩ | ⟨b, off, cap, h, _, _⟩
  · exact ⟨_, _, _, h⟩
  · exact ⟨_, _, _, h⟩
/-- The box of a curve. -/
theorem box2 {W W' : World} {n : Nat} {a b : Value} {t : TypeId} (hn : n = W.heap.size) (h : Bl (W.alloc (.cells #[a, b] t)) W') : W'.cell? ⟨n, 0, none⟩ = some a ∧ W'.cell? ⟨n, 1, none⟩ = some b := by
  subst hn; exact ⟨h.cell (by simp), h.cell (by simp)⟩
theorem own7b {W W' : World} {n : Nat} {a b c d x y z : Value} {t : TypeId} (hn : n = W.heap.size) (h : Bl (W.alloc (.cells #[a, b, c, d, x, y, z] t)) W') :
    W'.cell? ⟨n, 0, none⟩ = some a ∧ W'.cell? ⟨n, 1, none⟩ = some b ∧ W'.cell? ⟨n, 2, none⟩ = some c ∧ W'.cell? ⟨n, 3, none⟩ = some d ∧ W'.cell? ⟨n, 4, none⟩ = some x ∧ W'.cell? ⟨n, 5, none⟩ = some y ∧ W'.cell? ⟨n, 6, none⟩ = some z := by
  subst hn
  exact ⟨h.cell (by simp), h.cell (by simp), h.cell (by simp), h.cell (by simp), h.cell (by simp), h.cell (by simp), h.cell (by simp)⟩
end Go.Proofs.Ytdienaigmkaheaa
