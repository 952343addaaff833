/- What a call of the reference does to the world: nothing that was there turns. Slices of ints that come in. -/
import Derived.Test.YtkllhockcnokeaaDoorGr
import Derived.Lib.Hide
import Derived.Handy
import Derived.OwnWalk
import Derived.Maps.AppendAt
namespace Go.Proofs.YtkllhockcnokeaaDoor
open Go.RowKit

/-- Nothing that was there has turned. -/
def Bl (w w' : World) : Prop := Below w.heap.size w w'
theorem Gr.bl {w w' : World} (h : Gr w w') : Bl w w' := h.1
theorem Bl.refl (w : World) : Bl w w := Below.refl _ _
theorem Bl.size {w w' : World} (h : Bl w w') : w.heap.size ≤ w'.heap.size := Below.size h
theorem Bl.trans {a b c : World} (h : Bl a b) (k : Bl b c) : Bl a c := Below.trans h (Below.mono k h.size)
theorem Bl.alloc {a w : World} (h : Bl a w) (o : Obj) : Bl a (w.alloc o) := Below.alloc h h.size o
theorem Bl.drew {a w : World} (h : Bl a w) : Bl a w.drew := Below.drew h
theorem Bl.drewN {a w : World} (h : Bl a w) (n : Nat) : Bl a (w.drewN n) := ⟨h.os, h.tape, h.output, h.size, h.block⟩
theorem Bl.setCell {a w : World} (h : Bl a w) {p : Addr} (hp : a.heap.size ≤ p.block) (u : Value) : Bl a (w.setCell p u) := Below.setCell h hp u
theorem Bl.cell {w w' : World} (h : Bl w w') {p : Addr} {v : Value} (hc : w.cell? p = some v) : w'.cell? p = some v := by
  rw [Below.cell h (World.block_lt_of_cell? _ _ hc)]; exact hc
theorem Bl.frozen {w w' : World} (h : Bl w w') {p : Addr} (hp : p.block < w.heap.size) : w'.frozen? p = w.frozen? p := Below.frozen h hp
theorem Bl.grown {a w w' : World} {row : Option Nat} (h : Bl a w) (hg : w.grownBy w' row) (hrow : ∀ k, row = some k → a.heap.size ≤ k) : Bl a w' := Below.grown h hg h.size hrow

/-- v reads as the list xs. -/
def Slc (w : World) (v : Value) (xs : List Int) : Prop :=
  ∃ (o : Option Addr) (cap : Nat), v = .slice o xs.length cap ∧ (xs.length ≤ cap ∧ cap ≤ 9223372036854775807) ∧ ∀ i, i < xs.length → ∃ b off, o = some ⟨b, off, none⟩ ∧ w.cell? ⟨b, off + i, none⟩ = some (.int .i64 (xs[i]?.getD 0))
theorem Slc.bl {w w' : World} {v : Value} {xs : List Int} (h : Slc w v xs) (g : Bl w w') : Slc w' v xs := by
  obtain ⟨o, cap, h1, h2, h3⟩ := h
  refine ⟨o, cap, h1, h2, fun i hi => ?_⟩
  obtain ⟨b, off, h4, h5⟩ := h3 i hi
  exact ⟨b, off, h4, g.cell h5⟩
theorem slc_nil (w : World) (o : Option Addr) (cap : Nat) (h : cap ≤ 9223372036854775807) : Slc w (.slice o 0 cap) [] := ⟨o, cap, rfl, ⟨Nat.zero_le _, h⟩, fun _ hi => absurd hi (Nat.not_lt_zero _)⟩
/-- None, or at a place. -/
theorem Slc.open {w : World} {v : Value} {xs : List Int} (h : Slc w v xs) :
    (xs = [] ∧ ∃ o cap, v = .slice o 0 cap ∧ cap ≤ 9223372036854775807) ∨ ∃ b off cap, v = .slice (some ⟨b, off, none⟩) xs.length cap ∧ 0 < xs.length ∧ xs.length ≤ cap ∧ cap ≤ 9223372036854775807 ∧ ∀ i, i < xs.length → w.cell? ⟨b, off + i, none⟩ = some (.int .i64 (xs[i]?.getD 0)) := by
  obtain ⟨o, cap, h1, ⟨h2, h2'⟩, h3⟩ := h
  rcases Nat.eq_zero_or_pos xs.length with h0 | h0
  · obtain rfl : xs = [] := List.eq_nil_of_length_eq_zero h0
    exact Or.inl ⟨rfl, o, cap, h1, h2'⟩
  · obtain ⟨b, off, rfl, _⟩ := h3 0 h0
    refine Or.inr ⟨b, off, cap, h1, h0, h2, h2', fun i hi => ?_⟩
    obtain ⟨b', off', e, hc⟩ := h3 i hi
    cases e
    exact hc
theorem Slc.mk {w : World} {b off cap : Nat} {xs : List Int} (h2 : xs.length ≤ cap) (h2' : cap ≤ 9223372036854775807) (h : ∀ i, i < xs.length → w.cell? ⟨b, off + i, none⟩ = some (.int .i64 (xs[i]?.getD 0))) : Slc w (.slice (some ⟨b, off, none⟩) xs.length cap) xs :=
  ⟨_, cap, rfl, ⟨h2, h2'⟩, fun i hi => ⟨b, off, rfl, h i hi⟩⟩
/-- A row of the call's own reads as its list. -/
theorem slc_own {w : World} {base : Nat} {e : TypeId} {v : Value} {n : Nat} {xs : List Int} (h : w.ownsRow base e 1 v n (xs.map (Value.int .i64))) : Slc w v xs := by
  have hn : xs.length = n := by have := h.1; simpa using this
  rcases h.2 with ⟨rfl, h0⟩ | ⟨g, cap, cur, rfl, _, _, hcap, hmax, _⟩
  · subst h0
    obtain rfl : xs = [] := List.eq_nil_of_length_eq_zero hn
    exact slc_nil w _ _ (by omega)
  · subst hn
    refine Slc.mk hcap (by unfold maxLen at hmax; omega) fun i hi => ?_
    have := h.cells (g := g) rfl i (.int .i64 (xs[i]?.getD 0)) (by simp [hi])
    rwa [Go.WideShapes.add_plain] at this
/-- The beginning of what v reads as. -/
theorem Slc.take {w : World} {b off cap : Nat} {xs : List Int} {k : Nat} (hk : k ≤ xs.length) (h2 : xs.length ≤ cap) (h2' : cap ≤ 9223372036854775807) (h : ∀ i, i < xs.length → w.cell? ⟨b, off + i, none⟩ = some (.int .i64 (xs[i]?.getD 0))) : Slc w (.slice (some ⟨b, off, none⟩) k cap) (xs.take k) := by
  have e : (xs.take k).length = k := by simp [hk]
  have := Slc.mk (w := w) (b := b) (off := off) (cap := cap) (xs := xs.take k) (by omega) h2' (fun i hi => by
    rw [e] at hi
    rw [h i (by omega), List.getElem?_take, if_pos hi])
  rwa [e] at this

theorem cell_one_new (w : World) (u : Value) (t : TypeId) : ∀ j x, [u][j]? = some x → (w.alloc (.cells #[u] t)).cell? ((⟨w.heap.size, 0, none⟩ : Addr).add j) = some x := by
  intro j x hj
  match j, hj with
  | 0, hj => simp at hj; subst hj; simp [Addr.add]

/-- 'append' of one int to a row of the call's own. -/
theorem app_int {P : Program} {t e : TypeId} (ht : P.underlying t = some (.slice e)) (info : (P.info? e).map (fun i => (i.zero, i.size, i.bytes)) = some (some (.int .i64 0), 1, 8))
    {ops : Array Oper} {rest : List Oper} {o : Oper} {a : Act} {Q : Exit → Act → World → Prop} (hgd : o.guard = none) (s x : Operand)
    (ho : o.op = .call { callee := .builtin .append, args := #[s, x], argTypes := #[t, t] }) (W w : World) (v : Value) (n : Nat) (ds : List Int) (d : Int)
    (hown : w.ownsRow W.heap.size e 1 v n (ds.map (Value.int .i64))) (hs : a.eval s = v) (hx : a.eval x = .slice (some ⟨w.heap.size, 0, none⟩) 1 1) (hn : n ≤ 1000000000) (hbl : Bl W w)
    (h : ∀ v' w', w'.ownsRow W.heap.size e 1 v' (n + 1) ((ds ++ [d]).map (Value.int .i64)) → Bl W w' → wpList P ops Q rest (a.put o.dst v') w') :
    wpList P ops Q (o :: rest) a (w.alloc (.cells #[.int .i64 d] e)) := by
  obtain ⟨i0, hi, hz0, hz1, hz2⟩ := info_parts info
  refine wpList_append_own _ hgd s x t ho W.heap.size e i0 (.int .i64 0) 1 8 ht hi hz0 hz1 hz2 rfl (by omega) v n _ hs (hown.alloc _) ⟨w.heap.size, 0, none⟩ 1 1 [.int .i64 d] hx rfl (cell_one_new w _ e) (fun u hu => by simp at hu; subst hu; rfl) (by unfold maxLen; omega) (by omega) (by have := hbl.size; simp; omega) ?_
  intro v' w' h2 h3 _
  refine h v' w' (by simpa using h2) ((hbl.alloc _).grown h3 fun k hk => ?_)
  exact (hown.lt k hk).1

/-- The same, with the place at which the row lies then. -/
theorem app_int_at {P : Program} {t e : TypeId} (ht : P.underlying t = some (.slice e)) (info : (P.info? e).map (fun i => (i.zero, i.size, i.bytes)) = some (some (.int .i64 0), 1, 8))
    {ops : Array Oper} {rest : List Oper} {o : Oper} {a : Act} {Q : Exit → Act → World → Prop} (hgd : o.guard = none) (s x : Operand)
    (ho : o.op = .call { callee := .builtin .append, args := #[s, x], argTypes := #[t, t] }) (W w : World) (v : Value) (n : Nat) (ds : List Int) (d : Int)
    (hown : w.ownsRow W.heap.size e 1 v n (ds.map (Value.int .i64))) (hs : a.eval s = v) (hx : a.eval x = .slice (some ⟨w.heap.size, 0, none⟩) 1 1) (hn : n ≤ 1000000000) (hbl : Bl W w)
    (h : ∀ v' w', w'.ownsRow W.heap.size e 1 v' (n + 1) ((ds ++ [d]).map (Value.int .i64)) → Bl W w' → w.grownBy w' v.ownBlock → (v'.ownBlock = v.ownBlock ∨ v'.ownBlock = some (w.heap.size + 1)) → wpList P ops Q rest (a.put o.dst v') w') :
    wpList P ops Q (o :: rest) a (w.alloc (.cells #[.int .i64 d] e)) := by
  obtain ⟨i0, hi, hz0, hz1, hz2⟩ := info_parts info
  refine wpList_append_own_at _ hgd s x t ho W.heap.size e i0 (.int .i64 0) 1 8 ht hi hz0 hz1 hz2 rfl (by omega) v n _ hs (hown.alloc _) ⟨w.heap.size, 0, none⟩ 1 1 [.int .i64 d] hx rfl (cell_one_new w _ e) (fun u hu => by simp at hu; subst hu; rfl) (by unfold maxLen; omega) (by omega) (by have := hbl.size; simp; omega) ?_
  intro v' w' h2 h3 _ h5
  refine h v' w' (by simpa using h2) ((hbl.alloc _).grown h3 fun k hk => ?_) ?_ (by simpa using h5)
  · exact (hown.lt k hk).1
  · exact ⟨h3.os, h3.tape, h3.output, Nat.le_trans (by simp) h3.size, fun k hk hne => (h3.block k (by simp; omega) hne).trans (heap_alloc_old w _ hk)⟩
end Go.Proofs.YtkllhockcnokeaaDoor
