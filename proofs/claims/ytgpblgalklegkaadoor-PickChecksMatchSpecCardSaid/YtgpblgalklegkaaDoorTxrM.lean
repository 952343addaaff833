/- Texts of selections: as the reference joins them. -/
import Derived.Test.YtgpblgalklegkaaDoorTxtM
namespace Go.Proofs.YtgpblgalklegkaaDoor
open Go.RowKit Go.Lib

/-- An Arg that stands in brackets where it is joined. -/
def innT (T : Pk → List UInt8) (a : Pk) : List UInt8 := if a.kind = 4 ∨ a.kind = 5 then paren (T a) else T a
theorem argT_succ (T : Pk → List UInt8) (k : Int) (i : Nat) (a : Pk) : argT T k (i + 1) a = innT T a := by
  unfold argT innT
  by_cases h : a.kind = 4 ∨ a.kind = 5
  · rw [if_pos h, if_pos (show hasBr k (i + 1) a.kind = true from by unfold hasBr; (repeat' split) <;> first | rfl | (exfalso; omega) | (simp; omega))]
  · rw [if_neg h, if_neg (show ¬ hasBr k (i + 1) a.kind = true from by rw [show hasBr k (i + 1) a.kind = false from by unfold hasBr; (repeat' split) <;> first | rfl | (exfalso; omega) | (simp; omega)]; decide)]
theorem argT_0of4 (T : Pk → List UInt8) (a : Pk) : argT T 4 0 a = if a.kind = 5 then T a else innT T a := by
  unfold argT innT
  by_cases h4 : a.kind = 4
  · rw [if_pos (show hasBr 4 0 a.kind = true from by unfold hasBr; (repeat' split) <;> first | rfl | (exfalso; omega) | (simp; omega)), if_neg (show ¬ a.kind = 5 by omega), if_pos (Or.inl h4)]
  · rw [if_neg (show ¬ hasBr 4 0 a.kind = true from by rw [show hasBr 4 0 a.kind = false from by unfold hasBr; (repeat' split) <;> first | rfl | (exfalso; omega) | (simp; omega)]; decide)]
    by_cases h5 : a.kind = 5
    · rw [if_pos h5]
    · rw [if_neg h5, if_neg (show ¬ (a.kind = 4 ∨ a.kind = 5) by omega)]
theorem argT_0of5 (T : Pk → List UInt8) (a : Pk) : argT T 5 0 a = T a := by
  unfold argT
  rw [if_neg (show ¬ hasBr 5 0 a.kind = true from by rw [show hasBr 5 0 a.kind = false from by unfold hasBr; (repeat' split) <;> first | rfl | (exfalso; omega) | (simp; omega)]; decide)]
theorem argT_0of (T : Pk → List UInt8) (k : Int) (hk : 6 ≤ k) (a : Pk) : argT T k 0 a = innT T a := by
  unfold argT innT
  by_cases h : a.kind = 4 ∨ a.kind = 5
  · rw [if_pos h, if_pos (show hasBr k 0 a.kind = true from by unfold hasBr; (repeat' split) <;> first | rfl | (exfalso; omega) | (simp; omega))]
  · rw [if_neg h, if_neg (show ¬ hasBr k 0 a.kind = true from by rw [show hasBr k 0 a.kind = false from by unfold hasBr; (repeat' split) <;> first | rfl | (exfalso; omega) | (simp; omega)]; decide)]
theorem innT_len (T : Pk → List UInt8) (a : Pk) : (innT T a).length ≤ (T a).length + 2 := by
  unfold innT paren
  split <;> simp
theorem join_one1 {T : Pk → List UInt8} {k : Int} {l : List Pk} (sep : List UInt8) (h : l.length = 1) : join (argsT T k l) sep = argT T k 0 (l[0]'(by omega)) := by
  match l, h with
  | [a], _ => show join [argT T k 0 a] sep = _; rw [join_one]; rfl
theorem join_two {T : Pk → List UInt8} {k : Int} {l : List Pk} (sep : List UInt8) (h : l.length = 2) : join (argsT T k l) sep = argT T k 0 (l[0]'(by omega)) ++ sep ++ argT T k 1 (l[1]'(by omega)) := by
  match l, h with
  | [a, b], _ =>
    show join [argT T k 0 a, argT T k 1 b] sep = _
    rw [join_cons]
    simp [joinTail]
theorem join_snoc (x : List UInt8) (r : List (List UInt8)) (y sep : List UInt8) : join (x :: r ++ [y]) sep = join (x :: r) sep ++ sep ++ y := by
  rw [List.cons_append, join_cons, join_cons]
  simp [joinTail]
/-- The texts of the first Args, joined. -/
def preJ (T : Pk → List UInt8) (k : Int) (l : List Pk) (sep : List UInt8) (j : Nat) : List UInt8 := join (argsT T k (l.take (j + 1))) sep
theorem preJ_zero {T : Pk → List UInt8} {k : Int} {l : List Pk} {sep : List UInt8} (h : 0 < l.length) : preJ T k l sep 0 = argT T k 0 l[0] := by
  unfold preJ
  rw [join_one1 sep (by rw [List.length_take]; omega)]
  simp
theorem preJ_succ {T : Pk → List UInt8} {k : Int} {l : List Pk} {sep : List UInt8} {j : Nat} (h : j + 1 < l.length) : preJ T k l sep (j + 1) = preJ T k l sep j ++ sep ++ innT T l[j + 1] := by
  unfold preJ
  rw [List.take_succ_eq_append_getElem h]
  unfold argsT
  rw [List.mapIdx_append]
  have hl : (l.take (j + 1)).length = j + 1 := by rw [List.length_take]; omega
  have e : List.mapIdx (fun i a => argT T k (i + (l.take (j + 1)).length) a) [l[j + 1]] = [innT T l[j + 1]] := by
    show [argT T k (0 + (l.take (j + 1)).length) l[j + 1]] = _
    rw [hl, Nat.zero_add, argT_succ]
  rw [e]
  match l, h with
  | a :: r, h =>
    rw [List.take_succ_cons, List.mapIdx_cons]
    exact join_snoc _ _ _ _
theorem preJ_end {T : Pk → List UInt8} {k : Int} {l : List Pk} {sep : List UInt8} {j : Nat} (h : l.length ≤ j + 1) : preJ T k l sep j = join (argsT T k l) sep := by
  unfold preJ
  rw [List.take_of_length_le h]
theorem preJ_le {d : Nat} {p : Pk} (h : Good (d + 1) p) (k : Int) (sep : List UInt8) (hs : sep.length ≤ 3) (j : Nat) : (preJ (txt d) k p.args sep j).length ≤ 12800 := by
  have h1 := joins_bd (txt d) (preD d) k sep hs (p.args.take (j + 1)) fun a hm => txt_bd d a (h.arg a (List.mem_of_mem_take hm))
  have h2 : ((p.args.take (j + 1)).flatMap (preD d)).length ≤ (p.args.flatMap (preD d)).length := by
    have e : p.args.flatMap (preD d) = (p.args.take (j + 1)).flatMap (preD d) ++ (p.args.drop (j + 1)).flatMap (preD d) := by rw [← List.flatMap_append, List.take_append_drop]
    rw [e, List.length_append]; omega
  have e : (preD (d + 1) p).length = (p.args.flatMap (preD d)).length + 1 := rfl
  have := h.2.2
  unfold preJ
  omega
end Go.Proofs.YtgpblgalklegkaaDoor
