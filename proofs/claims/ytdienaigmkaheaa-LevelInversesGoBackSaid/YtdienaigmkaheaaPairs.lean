/- Rows of pairs of numbers that a call makes. -/
import Derived.Test.YtdienaigmkaheaaBox
import Derived.Laws.OwnMore
namespace Go.Proofs.Ytdienaigmkaheaa
open Go.RowKit

/-- The cells of a row of pairs. -/
def flat : List (Int × Int) → List Value
  | [] => []
  | p :: r => .int .i64 p.1 :: .int .i64 p.2 :: flat r
theorem flat_len : ∀ l, (flat l).length = l.length * 2
  | [] => rfl
  | p :: r => by simp only [flat, List.length_cons, flat_len r]; omega
theorem flat_app : ∀ l r, flat (l ++ r) = flat l ++ flat r
  | [], r => rfl
  | p :: l, r => by simp only [flat, List.cons_append, flat_app l r]
theorem flat_get : ∀ (l : List (Int × Int)) (i : Nat), i < l.length → (flat l)[i * 2]? = some (.int .i64 (l[i]?.getD (0, 0)).1) ∧ (flat l)[i * 2 + 1]? = some (.int .i64 (l[i]?.getD (0, 0)).2)
  | [], i, h => absurd h (Nat.not_lt_zero _)
  | p :: r, 0, _ => ⟨rfl, rfl⟩
  | p :: r, i + 1, h => by
    have := flat_get r i (by simpa using h)
    rw [show (i + 1) * 2 = i * 2 + 1 + 1 by omega, show i * 2 + 1 + 1 + 1 = (i * 2 + 1) + 1 + 1 by omega]
    exact this

theorem box_lt {w : World} {b : Nat} {o : Obj} (h : w.heap[b]? = some o) : b < w.heap.size := by
  rcases Nat.lt_or_ge b w.heap.size with hlt | hge
  · exact hlt
  · rw [Array.getElem?_eq_none hge] at h; cases h
/-- v is a row of the call's own that reads as l. -/
def Row (base : Nat) (e : TypeId) (w : World) (v : Value) (l : List (Int × Int)) : Prop := w.ownsRow base e 2 v l.length (flat l)
theorem Row.bl {base : Nat} {e : TypeId} {w w' : World} {v : Value} {l : List (Int × Int)} (h : Row base e w v l) (g : Bl w w') : Row base e w' v l :=
  World.ownsRow.kept (row := none) h ⟨g.os, g.tape, g.output, g.size, fun k hk _ => g.block k hk⟩ (by cases hv : v.ownBlock <;> simp)
theorem Row.pts {base : Nat} {e : TypeId} {w : World} {v : Value} {l : List (Int × Int)} (h : Row base e w v l) : PtsAny w v l := by
  rcases h.2 with ⟨rfl, h0⟩ | ⟨g, cap, cur, rfl, _, _, hcap, hmax, _⟩
  · exact Or.inl ⟨none, 0, rfl, List.eq_nil_of_length_eq_zero h0⟩
  · refine Or.inr ⟨g, 0, cap, rfl, fun i hi => ?_, by unfold maxLen at hmax; omega⟩
    obtain ⟨h1, h2⟩ := flat_get l i hi
    have e1 := h.cells (g := g) rfl _ _ h1
    have e2 := h.cells (g := g) rfl _ _ h2
    rw [Go.WideShapes.add_plain] at e1 e2
    rw [show 0 + i * 2 + 1 = 0 + (i * 2 + 1) by omega]
    exact ⟨e1, e2⟩
theorem row_set {base : Nat} {e : TypeId} {w : World} {v : Value} {l : List (Int × Int)} {b j : Nat} (h : Row base e w v l) (hb : b < base) (u : Value) : Row base e (w.setCell ⟨b, j, none⟩ u) v l := by
  refine World.ownsRow.kept (row := some b) h ⟨rfl, rfl, rfl, by simp, fun k hk hne => Below.heap_setCell _ _ _ _ (by intro he; apply hne; rw [he])⟩ ?_
  cases hv : v.ownBlock with
  | none => exact Or.inl rfl
  | some g =>
    refine Or.inr fun he => ?_
    have := (World.ownsRow.lt h g hv).1
    cases he
    omega
theorem Row.far {base : Nat} {e : TypeId} {w w' : World} {v : Value} {l : List (Int × Int)} (h : Row base e w v l) (hg : w.grownBy w' v.ownBlock) {b : Nat} {o : Obj} (hb : b < base) (hbox : w.heap[b]? = some o) : w'.heap[b]? = some o := by
  rw [hg.block b (box_lt hbox) (fun he => by have := (World.ownsRow.lt h b he.symm).1; omega)]; exact hbox
theorem row_one {base : Nat} {e : TypeId} {w : World} (a b : Int) (hb : base ≤ w.heap.size) : Row base e (w.alloc (.cells #[.int .i64 a, .int .i64 b] e)) (.slice (some ⟨w.heap.size, 0, none⟩) 1 1) [(a, b)] :=
  World.ownsRow_lit (base := base) (e := e) (size := 2) w #[.int .i64 a, .int .i64 b] 1 hb (by unfold maxLen; omega) rfl

theorem cell_two_new (w : World) (u v : Value) (t : TypeId) : ∀ j x, [u, v][j]? = some x → (w.alloc (.cells #[u, v] t)).cell? ((⟨w.heap.size, 0, none⟩ : Addr).add j) = some x := by
  intro j x hj
  match j, hj with
  | 0, hj => simp at hj; subst hj; simp [Addr.add]
  | 1, hj => simp at hj; subst hj; simp [Addr.add]

/-- 'append' of one pair to a row of the call's own. -/
theorem app_pair {P : Program} {t e : TypeId} (ht : P.underlying t = some (.slice e)) (info : (P.info? e).map (fun i => (i.zero, i.size, i.bytes)) = some (some (.agg #[.int .i64 0, .int .i64 0]), 2, 16))
    {ops : Array Oper} {rest : List Oper} {o : Oper} {a : Act} {Q : Exit → Act → World → Prop} (hgd : o.guard = none) (s x : Operand)
    (ho : o.op = .call { callee := .builtin .append, args := #[s, x], argTypes := #[t, t] }) (base : Nat) (w : World) (v : Value) (l : List (Int × Int)) (c d : Int)
    (hown : Row base e w v l) (hs : a.eval s = v) (hx : a.eval x = .slice (some ⟨w.heap.size, 0, none⟩) 1 1) (hn : l.length ≤ 1000000000) (hbl : base ≤ w.heap.size)
    (h : ∀ v' w', Row base e w' v' (l ++ [(c, d)]) → (∀ w0, Bl w0 w → w0.heap.size ≤ base → Bl w0 w') → w.grownBy w' v.ownBlock → wpList P ops Q rest (a.put o.dst v') w') :
    wpList P ops Q (o :: rest) a (w.alloc (.cells #[.int .i64 c, .int .i64 d] e)) := by
  obtain ⟨i0, hi, hz0, hz1, hz2⟩ := info_parts info
  refine wpList_append_own_at _ hgd s x t ho base e i0 (.agg #[.int .i64 0, .int .i64 0]) 2 16 ht hi hz0 hz1 hz2 rfl (by omega) v l.length _ hs (World.ownsRow.alloc hown _) ⟨w.heap.size, 0, none⟩ 1 1 [.int .i64 c, .int .i64 d] hx rfl (cell_two_new w _ _ e) (fun u hu => by simp at hu; rcases hu with rfl | rfl <;> rfl) (by unfold maxLen; omega) (by omega) (by simp; omega) ?_
  intro v' w' h2 h3 _ h5
  refine h v' w' ?_ (fun w0 g0 hb => ?_) ?_
  · have e1 : flat (l ++ [(c, d)]) = flat l ++ [.int .i64 c, .int .i64 d] := by rw [flat_app]; rfl
    unfold Row
    rw [e1]
    simpa using h2
  · exact (g0.alloc _).grown h3 fun k hk => by have := (World.ownsRow.lt hown k hk).1; omega
  · exact ⟨h3.os, h3.tape, h3.output, Nat.le_trans (by simp) h3.size, fun k hk hne => (h3.block k (by simp; omega) hne).trans (heap_alloc_old w _ hk)⟩
end Go.Proofs.Ytdienaigmkaheaa
