/- Rows of gels that a call makes. -/
import Derived.Test.YtfamnaekelmkpaaGreatDoorGelM
import Derived.Test.YtfamnaekelmkpaaGreatDoorLine
import Derived.Laws.OwnMore
import Derived.Maps.AppendAt
namespace Go.Proofs.YtfamnaekelmkpaaGreatDoor
open Go.RowKit

def cel5 (e : Gel) : List Value := [.int .i64 e.n, .string e.name, .int .i64 e.r, .int .i64 e.g, .int .i64 e.b]
def flat5 (L : List Gel) : List Value := L.flatMap cel5
theorem flat5_len (L : List Gel) : (flat5 L).length = L.length * 5 := by
  induction L with
  | nil => rfl
  | cons e t ih =>
    have : flat5 (e :: t) = cel5 e ++ flat5 t := rfl
    rw [this, List.length_append, ih, List.length_cons]
    show 5 + _ = _
    omega
theorem flat5_snoc (L : List Gel) (e : Gel) : flat5 (L ++ [e]) = flat5 L ++ cel5 e := by unfold flat5; rw [List.flatMap_append]; simp
theorem flat5_get : ∀ (L : List Gel) (i : Nat) (hi : i < L.length) (j : Nat), j < 5 → (flat5 L)[i * 5 + j]? = (cel5 L[i])[j]?
  | [], i, h, _, _ => absurd h (Nat.not_lt_zero _)
  | e :: t, 0, _, j, hj => by
    have : flat5 (e :: t) = cel5 e ++ flat5 t := rfl
    rw [this, Nat.zero_mul, Nat.zero_add, List.getElem?_append_left (show j < (cel5 e).length from hj)]
    rfl
  | e :: t, i + 1, h, j, hj => by
    have : flat5 (e :: t) = cel5 e ++ flat5 t := rfl
    rw [this, List.getElem?_append_right (show (cel5 e).length ≤ _ by show 5 ≤ _; omega)]
    have e2 : (i + 1) * 5 + j - (cel5 e).length = i * 5 + j := by show (i + 1) * 5 + j - 5 = _; omega
    rw [e2]
    exact flat5_get t i (by simpa using h) j hj
/-- v is a row of the call's own that reads as L. -/
def GRow (base : Nat) (w : World) (v : Value) (L : List Gel) : Prop := w.ownsRow base 33 5 v L.length (flat5 L)
theorem GRow.bl {base : Nat} {w w' : World} {v : Value} {L : List Gel} (h : GRow base w v L) (g : Bl w w') : GRow base w' v L :=
  World.ownsRow.kept (row := none) h ⟨g.os, g.tape, g.output, g.size, fun k hk _ => g.block k hk⟩ (by cases hv : v.ownBlock <;> simp)
theorem GRow.val {base : Nat} {w : World} {v : Value} {L : List Gel} (h : GRow base w v L) : GelVal w v L := by
  rcases h.2 with ⟨rfl, h0⟩ | ⟨g, cap, cur, rfl, _, _, hcap, hmax, _⟩
  · refine ⟨none, 0, by rw [h0], by omega, fun hp => absurd hp (by omega)⟩
  · refine ⟨_, cap, rfl, by unfold maxLen at hmax; omega, fun _ => ⟨g, 0, rfl, fun i hi => ?_⟩⟩
    have key : ∀ j u, j < 5 → (cel5 L[i])[j]? = some u → w.cell? ⟨g, 0 + i * 5 + j, none⟩ = some u := fun j u hj hu => by
      have e1 := h.cells (g := g) rfl (i * 5 + j) u (by rw [flat5_get L i hi j hj, hu])
      rw [Go.WideShapes.add_plain] at e1
      rw [Nat.add_assoc]; exact e1
    exact ⟨key 0 _ (by decide) rfl, key 1 _ (by decide) rfl, key 2 _ (by decide) rfl, key 3 _ (by decide) rfl, key 4 _ (by decide) rfl⟩
theorem GRow.set {base : Nat} {w : World} {v : Value} {L : List Gel} {b j : Nat} (h : GRow base w v L) (hb : b < base) (u : Value) : GRow base (w.setCell ⟨b, j, none⟩ u) v L := by
  refine World.ownsRow.kept (row := some b) h ⟨rfl, rfl, rfl, by simp, fun k hk hne => Below.heap_setCell _ _ _ _ (by intro he; apply hne; rw [he])⟩ ?_
  cases hv : v.ownBlock with
  | none => exact Or.inl rfl
  | some g =>
    refine Or.inr fun he => ?_
    have := (World.ownsRow.lt h g hv).1
    cases he
    omega
theorem infoG : (Tryz.prog.info? 33).map (fun i => (i.zero, i.size, i.bytes)) = some (some (.agg #[.int .i64 0, .string ⟨#[]⟩, .int .i64 0, .int .i64 0, .int .i64 0]), 5, 48) := by kernel_rfl
theorem cell_five_new (w : World) (c0 c1 c2 c3 c4 : Value) (t : TypeId) : ∀ j x, [c0, c1, c2, c3, c4][j]? = some x → (w.alloc (.cells #[c0, c1, c2, c3, c4] t)).cell? ((⟨w.heap.size, 0, none⟩ : Addr).add j) = some x := by
  intro j x hj
  match j, hj with
  | 0, hj => simp at hj; subst hj; simp [Addr.add]
  | 1, hj => simp at hj; subst hj; simp [Addr.add]
  | 2, hj => simp at hj; subst hj; simp [Addr.add]
  | 3, hj => simp at hj; subst hj; simp [Addr.add]
  | 4, hj => simp at hj; subst hj; simp [Addr.add]
set_option maxRecDepth 100000 in
/-- 'append' of one gel to a row of the call's own. -/
theorem app_gel {ops : Array Oper} {rest : List Oper} {o : Oper} {a : Act} {Q : Exit → Act → World → Prop} (hgd : o.guard = none) (s x : Operand)
    (ho : o.op = .call { callee := .builtin .append, args := #[s, x], argTypes := #[22, 22] }) (base : Nat) (w : World) (v : Value) (L : List Gel) (e : Gel)
    (hown : GRow base w v L) (hs : a.eval s = v) (hx : a.eval x = .slice (some ⟨w.heap.size, 0, none⟩) 1 1) (hn : L.length ≤ 1000000000) (hbl : base ≤ w.heap.size)
    (h : ∀ v' w', GRow base w' v' (L ++ [e]) → w.grownBy w' v.ownBlock → wpList Tryz.prog ops Q rest (a.put o.dst v') w') :
    wpList Tryz.prog ops Q (o :: rest) a (w.alloc (.cells #[.int .i64 e.n, .string e.name, .int .i64 e.r, .int .i64 e.g, .int .i64 e.b] 33)) := by
  obtain ⟨i0, hi, hz0, hz1, hz2⟩ := info_parts infoG
  refine wpList_append_own_at _ hgd s x 22 ho base 33 i0 (.agg #[.int .i64 0, .string ⟨#[]⟩, .int .i64 0, .int .i64 0, .int .i64 0]) 5 48 Tryz.underlying22 hi hz0 hz1 hz2 rfl (by omega) v L.length _ hs (World.ownsRow.alloc hown _) ⟨w.heap.size, 0, none⟩ 1 1 (cel5 e) hx rfl (cell_five_new w _ _ _ _ _ 33) (fun u hu => by simp [cel5] at hu; rcases hu with rfl | rfl | rfl | rfl | rfl <;> rfl) (by unfold maxLen; omega) (by omega) (by simp; omega) ?_
  intro v' w' h2 h3 _ h5
  refine h v' w' ?_ ?_
  · unfold GRow
    rw [flat5_snoc]
    simpa using h2
  · exact ⟨h3.os, h3.tape, h3.output, Nat.le_trans (by simp) h3.size, fun k hk hne => (h3.block k (by simp; omega) hne).trans (heap_alloc_old w _ hk)⟩
end Go.Proofs.YtfamnaekelmkpaaGreatDoor
