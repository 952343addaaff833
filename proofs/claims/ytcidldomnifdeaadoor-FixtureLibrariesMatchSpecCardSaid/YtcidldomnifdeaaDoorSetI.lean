/- Sets of numbers: a map of bools that the call makes. -/
import Derived.Test.YtcidldomnifdeaaDoorSetB
namespace Go.Proofs.YtcidldomnifdeaaDoor
open Go.RowKit Go.Maps Go.WideMaps

/-- What a map of bools reads as in which these numbers are true. -/
def iset (l : List Int) : DataW Unit := setOf (.lit (.bool true)) (l.map (Lit.int .i64))
theorem iset_nil : iset [] = .map [] := rfl
theorem iset_snoc (l : List Int) (x : Int) : iset (l ++ [x]) = (iset l).put (.int .i64 x) (.lit (.bool true)) := by
  unfold iset; rw [List.map_append]; exact setOf_snoc _ _ _
theorem key_int (x : Int) : WideAt.IsKeyLit (.int .i64 x) := by simp [WideAt.IsKeyLit]
theorem ati_fold (y : Int) (z : DataW Unit) : ∀ (l : List Int) (m : DataW Unit), IsMap m →
    ((l.map (Lit.int .i64)).foldl (fun m x => m.put x (.lit (.bool true))) m).atKey (.int .i64 y) z = if l.contains y = true then .lit (.bool true) else m.atKey (.int .i64 y) z
  | [], m, _ => by simp
  | x :: t, m, hm => by
    rw [List.map_cons, List.foldl_cons, ati_fold y z t _ (hm.put _ _)]
    by_cases h : y = x
    · subst h
      rw [atKey_put_same hm (key_int y)]; simp
    · rw [atKey_put_other (by simpa using h)]
      have : (x :: t).contains y = t.contains y := by simp [h]
      rw [this]
theorem at_iset (l : List Int) (y : Int) : (iset l).atKey (.int .i64 y) (.lit (.bool false)) = .lit (.bool (l.contains y)) := by
  unfold iset setOf
  rw [ati_fold y _ l _ isMap_empty]
  cases l.contains y <;> rfl
/-- Block b is such a map. -/
def SetIAt (w : World) (k e : TypeId) (b n : Nat) (l : List Int) : Prop := w.ownsMap Tryd.prog k (plainElem Tryd.prog e) b n (iset l)
theorem SetIAt.bl {w w' : World} {k e : TypeId} {b n : Nat} {l : List Int} (h : SetIAt w k e b n l) (g : Bl w w') : SetIAt w' k e b n l := by
  obtain ⟨es, clock, hb, r⟩ := h
  have hlt : b < w.heap.size := by
    rcases Nat.lt_or_ge b w.heap.size with h | h
    · exact h
    · rw [Array.getElem?_eq_none h] at hb; cases hb
  exact ⟨es, clock, (Below.block g b hlt).trans hb, r⟩
theorem SetIAt.made (w : World) (k e : TypeId) : SetIAt (w.alloc (.map #[] 0)) k e w.heap.size 0 [] := World.ownsMap_made _ _ _ _
/-- Is a number in the set? -/
theorem wpList_lookup_seti {P : Program} (w : World) {ops : Array Oper} {rest : List Oper} {o : Oper} {a : Act} {Q : Exit → Act → World → Prop}
    (hg : o.guard = none) (m x : Operand) (t : TypeId) (hop : o.op = Op.lookup t m x false)
    (k e : TypeId) (hk : P.underlying k = some (.int .i64)) (ht : P.underlying t = some (.map k e)) (he : P.underlying e = some .bool) (hz : (zeroValue e).run P w = .ok (.bool false) w) (b n : Nat) (l : List Int)
    (hm : a.eval m = .map (some b)) (hown : w.ownsMap P k (plainElem P e) b n (iset l)) (s : Int) (hs : (Lit.int .i64 s).wf = true) (hx : a.eval x = .int .i64 s)
    (hK : wpList P ops Q rest (a.put o.dst (.bool (l.contains s))) w) :
    wpList P ops Q (o :: rest) a w := by
  refine wpList_plain hg fun K' hK' => ?_
  obtain ⟨v, ps, hrun, hv⟩ := hown.lookup (int_keyed hk) ht hz (plainElem_bool he false) (keyOf_int_mk hk hs)
  rw [at_iset] at hv
  generalize l.contains s = c at hv hK
  obtain rfl := plainElem_bool_inv he hv
  unfold Oper.wp
  simp [execOp, hop, hm, hx, hrun, Result.andThen]
  exact hK' _ _ hK
/-- An operation whose guard asks for it. -/
theorem wpList_wanted {P : Program} {ops : Array Oper} {Q : Exit → Act → World → Prop} {a : Act} {w : World} {rest : List Oper} {o : Oper} (hg : Region.wanted o (yielded ops a.tmps) = true)
    (h : ∀ K : Act → World → Prop, (∀ a w, wpList P ops Q rest a w → K a w) → o.wp P a w K Q) : wpList P ops Q (o :: rest) a w :=
  wpList_step fun K hK => by rw [if_pos hg]; exact h K hK
/-- Is a number in the set, where a guard asks? -/
theorem wpList_lookup_setg {P : Program} (w : World) {ops : Array Oper} {rest : List Oper} {o : Oper} {a : Act} {Q : Exit → Act → World → Prop}
    (hg : Region.wanted o (yielded ops a.tmps) = true) (m x : Operand) (t : TypeId) (hop : o.op = Op.lookup t m x false)
    (k e : TypeId) (hk : P.underlying k = some (.int .i64)) (ht : P.underlying t = some (.map k e)) (he : P.underlying e = some .bool) (hz : (zeroValue e).run P w = .ok (.bool false) w) (b n : Nat) (l : List Int)
    (hm : a.eval m = .map (some b)) (hown : w.ownsMap P k (plainElem P e) b n (iset l)) (s : Int) (hs : (Lit.int .i64 s).wf = true) (hx : a.eval x = .int .i64 s)
    (hK : wpList P ops Q rest (a.put o.dst (.bool (l.contains s))) w) :
    wpList P ops Q (o :: rest) a w := by
  refine wpList_wanted hg fun K' hK' => ?_
  obtain ⟨v, ps, hrun, hv⟩ := hown.lookup (int_keyed hk) ht hz (plainElem_bool he false) (keyOf_int_mk hk hs)
  rw [at_iset] at hv
  generalize l.contains s = c at hv hK
  obtain rfl := plainElem_bool_inv he hv
  unfold Oper.wp
  simp [execOp, hop, hm, hx, hrun, Result.andThen]
  exact hK' _ _ hK
end Go.Proofs.YtcidldomnifdeaaDoor
