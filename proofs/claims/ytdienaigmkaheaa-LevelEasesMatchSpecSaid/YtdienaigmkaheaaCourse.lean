/- The level of a fade as a function of the time. -/
import Derived.Test.YtdienaigmkaheaaBetween
import Derived.Test.YtdienaigmkaheaaFade
namespace Go.Proofs.Ytdienaigmkaheaa
open Go.RowKit Go.Sort

/-- A right fade. -/
structure OkFade (F T S Dl Tm k : Int) (l : List (Int × Int)) : Prop where
  f0 : 0 ≤ F
  f1 : F ≤ 65535
  t0 : 0 ≤ T
  t1 : T ≤ 65535
  s0 : 0 ≤ S
  s1 : S ≤ 36000000
  d0 : 0 ≤ Dl
  d1 : Dl ≤ 36000000
  m0 : 0 ≤ Tm
  m1 : Tm ≤ 36000000
  e1 : S + Dl + Tm ≤ 36000000
  curve : OkCurve k l

/-- The level at a time. -/
def fadeAt (F T S Dl Tm k : Int) (l : List (Int × Int)) (t : Int) : Int :=
  if S + Dl + Tm ≤ t then T else if t ≤ S + Dl then F else btw (wN k l (t - (S + Dl)) Tm) (wD k l (t - (S + Dl)) Tm) F T

/-- v is a function of a time, from 0 to the greatest. -/
def TimeFn (w : World) (G : Int → Int) (v : Value) : Prop := ∃ (g : Nat) (cb : Array Value), v = .func (.func g) #[] cb ∧ (∀ args w1, (callFunc g args).run Try.prog w1 = .ok (.enter g args) w1) ∧
  ∀ w1 t, Bl w w1 → 0 ≤ t → t ≤ 36000000 → Calls Try.prog g (#[.int .i64 t] ++ cb) w1 fun e w' => e = .returned (.int .i64 (G t)) ∧ Gr w1 w'
theorem TimeFn.gr {w w' : World} {G : Int → Int} {v : Value} (h : TimeFn w G v) (g : Gr w w') : TimeFn w' G v := by
  obtain ⟨f, cb, h1, h2, h3⟩ := h
  exact ⟨f, cb, h1, h2, fun w1 t hg => h3 w1 t (g.bl.trans hg)⟩
theorem TimeFn.bl {w w' : World} {G : Int → Int} {v : Value} (h : TimeFn w G v) (g : Bl w w') : TimeFn w' G v := by
  obtain ⟨f, cb, h1, h2, h3⟩ := h
  exact ⟨f, cb, h1, h2, fun w1 t hg => h3 w1 t (g.trans hg)⟩

theorem curve_of {w : World} {k : Int} {l : List (Int × Int)} {sv : Value} (h : CurveAt w k l sv) : OkCurve k l := ⟨h.lo, h.hi, fun e => (h.tab e).1⟩

end Go.Proofs.Ytdienaigmkaheaa
