/- What 'shape' returns: the function of a right curve. -/
import Derived.Test.YtkllhockcnokeaaDoorAlong
namespace Go.Proofs.YtkllhockcnokeaaDoor
open Go.RowKit Go.Sort

def wN (k : Int) (l : List (Int × Int)) (p q : Int) : Int :=
  if k = 2 then p * p else if k = 3 then q * q - (q - p) * (q - p) else if k = 4 then p * p * (3 * q - 2 * p) else if k = 5 then p / q else if k = 6 then (tab (l[0]?.getD (0, 0)) (l.drop 1) p q).1 else p
def wD (k : Int) (l : List (Int × Int)) (p q : Int) : Int :=
  if k = 2 then q * q else if k = 3 then q * q else if k = 4 then q * q * q else if k = 5 then 1 else if k = 6 then (tab (l[0]?.getD (0, 0)) (l.drop 1) p q).2 else q

/-- v is the function of the curve. -/
def WayFn (w : World) (k : Int) (l : List (Int × Int)) (v : Value) : Prop := ∃ (g : Nat) (cb : Array Value), v = .func (.func g) #[] cb ∧ (∀ args w1, (callFunc g args).run Tryd.prog w1 = .ok (.enter g args) w1) ∧
  ∀ w1 p q, Bl w w1 → 0 ≤ p → p ≤ q → 1 ≤ q → q ≤ 36000000 → Calls Tryd.prog g (#[.int .i64 p, .int .i64 q] ++ cb) w1 (PRa (wN k l p q) (wD k l p q) w1)
theorem WayFn.gr {w w' : World} {k : Int} {l : List (Int × Int)} {v : Value} (h : WayFn w k l v) (g : Gr w w') : WayFn w' k l v := by
  obtain ⟨f, cb, h1, h2, h3⟩ := h
  exact ⟨f, cb, h1, h2, fun w1 p q hg => h3 w1 p q (g.bl.trans hg)⟩
theorem WayFn.bl {w w' : World} {k : Int} {l : List (Int × Int)} {v : Value} (h : WayFn w k l v) (g : Bl w w') : WayFn w' k l v := by
  obtain ⟨f, cb, h1, h2, h3⟩ := h
  exact ⟨f, cb, h1, h2, fun w1 p q hg => h3 w1 p q (g.trans hg)⟩

/-- A right curve, as the world holds it. -/
structure CurveAt (w : World) (k : Int) (l : List (Int × Int)) (sv : Value) : Prop where
  lo : 1 ≤ k
  hi : k ≤ 6
  tab : k = 6 → OkTab l ∧ ∃ b off cap, sv = .slice (some ⟨b, off, none⟩) l.length cap ∧ Pts w b off l
theorem CurveAt.gr {w w' : World} {k : Int} {l : List (Int × Int)} {sv : Value} (h : CurveAt w k l sv) (g : Gr w w') : CurveAt w' k l sv :=
  ⟨h.lo, h.hi, fun e => by obtain ⟨h1, b, off, cap, h2, h3⟩ := h.tab e; exact ⟨h1, b, off, cap, h2, h3.gr g⟩⟩

def PShape (w : World) (k : Int) (l : List (Int × Int)) (e : Ending) (w' : World) : Prop := ∃ v, e = .returned v ∧ WayFn w' k l v ∧ Gr w w'

end Go.Proofs.YtkllhockcnokeaaDoor
