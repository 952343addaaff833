/- Sets of texts: a map of bools that the call makes. -/
import Derived.Test.YtcidldomnifdeaaDoorBl
import Derived.Test.YtcidldomnifdeaaDoorProg
import Derived.Maps.OwnSet
import Derived.Lib.Hide
namespace Go.Proofs.YtcidldomnifdeaaDoor
open Go.RowKit Go.Maps Go.WideMaps

/-- What a map of bools reads as in which these texts are true. -/
def nset (l : List (List UInt8)) : DataW Unit := setOf (.lit (.bool true)) (l.map Lit.string)
theorem nset_nil : nset [] = .map [] := rfl
theorem nset_snoc (l : List (List UInt8)) (x : List UInt8) : nset (l ++ [x]) = (nset l).put (.string x) (.lit (.bool true)) := by
  unfold nset; rw [List.map_append]; exact setOf_snoc _ _ _
theorem key_str (x : List UInt8) : WideAt.IsKeyLit (.string x) := by simp [WideAt.IsKeyLit]
theorem same_str (x y : List UInt8) : (Lit.string x).sameKey (.string y) = (x == y) := by simp [Lit.sameKey]
theorem at_fold (y : List UInt8) (z : DataW Unit) : ∀ (l : List (List UInt8)) (m : DataW Unit), IsMap m →
    ((l.map Lit.string).foldl (fun m x => m.put x (.lit (.bool true))) m).atKey (.string y) z = if l.contains y = true then .lit (.bool true) else m.atKey (.string y) z
  | [], m, _ => by simp
  | x :: t, m, hm => by
    rw [List.map_cons, List.foldl_cons, at_fold y z t _ (hm.put _ _)]
    by_cases h : y = x
    · subst h
      rw [atKey_put_same hm (key_str y)]; simp
    · rw [atKey_put_other (by simpa using h)]
      have : (x :: t).contains y = t.contains y := by simp [h]
      rw [this]
theorem at_nset (l : List (List UInt8)) (y : List UInt8) : (nset l).atKey (.string y) (.lit (.bool false)) = .lit (.bool (l.contains y)) := by
  unfold nset setOf
  rw [at_fold y _ l _ isMap_empty]
  cases l.contains y <;> rfl

/-- Block b is such a map. -/
def SetAt (w : World) (k e : TypeId) (b n : Nat) (l : List (List UInt8)) : Prop := w.ownsMap Tryd.prog k (plainElem Tryd.prog e) b n (nset l)
theorem SetAt.bl {w w' : World} {k e : TypeId} {b n : Nat} {l : List (List UInt8)} (h : SetAt w k e b n l) (g : Bl w w') : SetAt w' k e b n l := by
  obtain ⟨es, clock, hb, r⟩ := h
  have hlt : b < w.heap.size := by
    rcases Nat.lt_or_ge b w.heap.size with h | h
    · exact h
    · rw [Array.getElem?_eq_none h] at hb; cases hb
  exact ⟨es, clock, (Below.block g b hlt).trans hb, r⟩
theorem SetAt.made (w : World) (k e : TypeId) : SetAt (w.alloc (.map #[] 0)) k e w.heap.size 0 [] := World.ownsMap_made _ _ _ _
theorem plainElem_bool_inv {H : Type} {P : Program} {e : TypeId} (he : P.underlying e = some .bool) {v : Value} {x : Bool} {ps : List MemPlace} (h : plainElem (H := H) P e v = some (.lit (.bool x), ps)) : v = .bool x := by
  unfold plainElem at h
  rw [he] at h
  cases v <;> simp at h
  obtain ⟨rfl, _⟩ := h
  rfl

/-- Is a text in the set? -/
theorem wpList_lookup_set {P : Program} (w : World) {ops : Array Oper} {rest : List Oper} {o : Oper} {a : Act} {Q : Exit → Act → World → Prop}
    (hg : o.guard = none) (m x : Operand) (t : TypeId) (hop : o.op = Op.lookup t m x false)
    (k e : TypeId) (hk : P.underlying k = some .string) (ht : P.underlying t = some (.map k e)) (he : P.underlying e = some .bool) (hz : (zeroValue e).run P w = .ok (.bool false) w) (b n : Nat) (l : List (List UInt8))
    (hm : a.eval m = .map (some b)) (hown : w.ownsMap P k (plainElem P e) b n (nset l)) (s : ByteArray) (hs : s.size ≤ maxLen) (hx : a.eval x = .string s)
    (hK : wpList P ops Q rest (a.put o.dst (.bool (l.contains s.data.toList))) w) :
    wpList P ops Q (o :: rest) a w := by
  refine wpList_plain hg fun K' hK' => ?_
  obtain ⟨v, ps, hrun, hv⟩ := hown.lookup (string_keyed hk) ht hz (plainElem_bool he false) (keyOf_string_mk hk hs)
  rw [at_nset] at hv
  generalize l.contains s.data.toList = c at hv hK
  obtain rfl := plainElem_bool_inv he hv
  unfold Oper.wp
  simp [execOp, hop, hm, hx, hrun, Result.andThen]
  exact hK' _ _ hK
end Go.Proofs.YtcidldomnifdeaaDoor
