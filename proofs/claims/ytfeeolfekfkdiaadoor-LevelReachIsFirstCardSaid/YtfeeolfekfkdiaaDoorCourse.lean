/- The level of a fade as a function of the time. -/
import Derived.Test.YtfeeolfekfkdiaaDoorFade
namespace Go.Proofs.YtfeeolfekfkdiaaDoor
open Go.RowKit Go.Sort

/-- A right fade. -/
structure OkFade (F T S Dl Tm k : Int) (l : List (Int × Int)) : Prop where
  f0 : 0 ≤ F
  f1 : F ≤ 65535
  t0 : 0 ≤ T
  t1 : T ≤ 65535
  s0 : 0 ≤ S
  s1 : S ≤ 36000000
  d0 : 0 ≤ Dl
  d1 : Dl ≤ 36000000
  m0 : 0 ≤ Tm
  m1 : Tm ≤ 36000000
  e1 : S + Dl + Tm ≤ 36000000
  curve : OkCurve k l

/-- The level at a time. -/
def fadeAt (F T S Dl Tm k : Int) (l : List (Int × Int)) (t : Int) : Int :=
  if S + Dl + Tm ≤ t then T else if t ≤ S + Dl then F else btw (wN k l (t - (S + Dl)) Tm) (wD k l (t - (S + Dl)) Tm) F T

/-- v is a function of a time, from 0 to the greatest. -/
def TimeFn (w : World) (G : Int → Int) (v : Value) : Prop := ∃ (g : Nat) (cb : Array Value), v = .func (.func g) #[] cb ∧ (∀ args w1, (callFunc g args).run Tryd.prog w1 = .ok (.enter g args) w1) ∧
  ∀ w1 t, Bl w w1 → 0 ≤ t → t ≤ 36000000 → Calls Tryd.prog g (#[.int .i64 t] ++ cb) w1 fun e w' => e = .returned (.int .i64 (G t)) ∧ Gr w1 w'
theorem TimeFn.gr {w w' : World} {G : Int → Int} {v : Value} (h : TimeFn w G v) (g : Gr w w') : TimeFn w' G v := by
  obtain ⟨f, cb, h1, h2, h3⟩ := h
  exact ⟨f, cb, h1, h2, fun w1 t hg => h3 w1 t (g.bl.trans hg)⟩
theorem TimeFn.bl {w w' : World} {G : Int → Int} {v : Value} (h : TimeFn w G v) (g : Bl w w') : TimeFn w' G v := by
  obtain ⟨f, cb, h1, h2, h3⟩ := h
  exact ⟨f, cb, h1, h2, fun w1 t hg => h3 w1 t (g.trans hg)⟩

theorem curve_of {w : World} {k : Int} {l : List (Int × Int)} {sv : Value} (h : CurveAt w k l sv) : OkCurve k l := ⟨h.lo, h.hi, fun e => (h.tab e).1⟩

set_option maxHeartbeats 1600000 in
theorem course_fn (bf bb bw : Nat) (F T S Dl Tm k : Int) (l : List (Int × Int)) (sv vw : Value) (t : Int) (w : World) (hF : OkFade F T S Dl Tm k l)
    (c0 : w.cell? ⟨bf, 0, none⟩ = some (.int .i64 F)) (c1 : w.cell? ⟨bf, 1, none⟩ = some (.int .i64 T)) (c2 : w.cell? ⟨bf, 2, none⟩ = some (.int .i64 S)) (c3 : w.cell? ⟨bf, 3, none⟩ = some (.int .i64 Dl)) (c4 : w.cell? ⟨bf, 4, none⟩ = some (.int .i64 Tm)) (c5 : w.cell? ⟨bf, 5, none⟩ = some (.int .i64 k)) (c6 : w.cell? ⟨bf, 6, none⟩ = some sv)
    (cb : w.cell? ⟨bb, 0, none⟩ = some (.int .i64 (S + Dl))) (cw : w.cell? ⟨bw, 0, none⟩ = some vw) (hW : WayFn w k l vw) (_ : 0 ≤ t) (_ : t ≤ 36000000) :
    Calls Tryd.prog 66 (#[.int .i64 t] ++ #[.pointer (some ⟨bf, 0, none⟩), .pointer (some ⟨bb, 0, none⟩), .pointer (some ⟨bw, 0, none⟩)]) w fun e w' => e = .returned (.int .i64 (fadeAt F T S Dl Tm k l t)) ∧ Gr w w' := by
  obtain ⟨f0, f1, q0, q1, s0, s1, d0, d1, m0, m1, e1, hc⟩ := hF
  have HEnd := Lib.hid (fun w => end_any F T S Dl Tm k sv w s0 s1 d0 d1 m0 m1)
  have HC := Lib.hid hc
  clear hc
  have hbf := World.block_lt_of_cell? _ _ c0
  have hbb := World.block_lt_of_cell? _ _ cb
  have hbw := World.block_lt_of_cell? _ _ cw
  simp only at hbf hbb hbw
  by_cases h1 : S + Dl + Tm ≤ t
  · have e : Hid (fadeAt F T S Dl Tm k l t = T) := if_pos h1
    clear hW
    go_enter Tryd.func66, Tryd.ntmps66
    go_wp2_with fail
    refine (HEnd.out _).mono ?_
    rintro e' w1 ⟨rfl, rfl⟩
    go_wp2_with fail
    go_returns
    exact ⟨ret_int e.out.symm, (Gr.refl w).alloc _⟩
  by_cases h2 : t ≤ S + Dl
  · have e : Hid (fadeAt F T S Dl Tm k l t = F) := by show fadeAt F T S Dl Tm k l t = F; unfold fadeAt; rw [if_neg h1, if_pos h2]
    clear hW
    go_enter Tryd.func66, Tryd.ntmps66
    go_wp2_with fail
    refine (HEnd.out _).mono ?_
    rintro e' w1 ⟨rfl, rfl⟩
    go_wp2_with fail
    go_returns
    exact ⟨ret_int e.out.symm, (Gr.refl w).alloc _⟩
  · have e : Hid (fadeAt F T S Dl Tm k l t = btw (wN k l (t - (S + Dl)) Tm) (wD k l (t - (S + Dl)) Tm) F T) := by show fadeAt F T S Dl Tm k l t = _; unfold fadeAt; rw [if_neg h1, if_neg h2]
    obtain ⟨g, cbs, rfl, eg, hWf⟩ := hW
    have HWf := Lib.hid hWf
    clear hWf
    go_enter Tryd.func66, Tryd.ntmps66
    go_wp2_with fail
    refine (HEnd.out _).mono ?_
    rintro e' w1 ⟨rfl, rfl⟩
    have hwr : IntKind.i64.wrap (t - (S + Dl)) = t - (S + Dl) := IntWalk.i64_in _ (by omega)
    have HOK := Lib.hid (way_ok HC.out (p := t - (S + Dl)) (q := Tm) (by omega) (by omega) (by omega) (by omega))
    go_wp2_with fail
    go_region_held3 (fun w' => w'.cell? ⟨bw, 0, none⟩ = some (.func (.func g) #[] cbs) ∧ w'.cell? ⟨bb, 0, none⟩ = some (.int .i64 (S + Dl)) ∧ w'.cell? ⟨bf, 4, none⟩ = some (.int .i64 Tm) ∧ w'.cell? ⟨bf, 0, none⟩ = some (.int .i64 F) ∧ w'.cell? ⟨bf, 1, none⟩ = some (.int .i64 T))
      (first
        | (refine ⟨Gr.cell (w := w) ?_ cw, Gr.cell (w := w) ?_ cb, Gr.cell (w := w) ?_ c4, Gr.cell (w := w) ?_ c0, Gr.cell (w := w) ?_ c1⟩ <;> (repeat (first | with_reducible exact Gr.refl _ | with_reducible refine Gr.drew ?_ | with_reducible refine Gr.alloc ?_ _)); done)
        | (refine ⟨Gr.cell (w := w) ?_ cw, Gr.cell (w := w) ?_ cb, Gr.cell (w := w) ?_ c4, Gr.cell (w := w) ?_ c0, Gr.cell (w := w) ?_ c1⟩ <;> (refine Gr.trans ?_ hg2; (repeat (first | with_reducible exact Gr.refl _ | with_reducible refine Gr.drew ?_ | with_reducible refine Gr.alloc ?_ _))); done)
        | (refine ⟨Gr.cell (w := w) ?_ cw, Gr.cell (w := w) ?_ cb, Gr.cell (w := w) ?_ c4, Gr.cell (w := w) ?_ c0, Gr.cell (w := w) ?_ c1⟩ <;> (refine Gr.trans (Gr.trans ?_ hg2) hg3; (repeat (first | with_reducible exact Gr.refl _ | with_reducible refine Gr.drew ?_ | with_reducible refine Gr.alloc ?_ _))); done))
      (first
        | (go_at_fn g; refine (HWf.out _ (t - (S + Dl)) Tm (((Bl.refl w).alloc _).drew) (by omega) (by omega) (by omega) (by omega)).mono ?_; rintro e' w2 ⟨nh, nl, dh, dl, rfl, HH, hg2⟩)
        | (go_at_call 67; refine (between_any nh nl dh dl _ _ F T _ HH.1 HH.2 HOK.out f0 f1 q0 q1).mono ?_; rintro e' w3 ⟨rfl, hg3⟩))
    go_wp2_with fail
    go_returns
    exact ⟨ret_int e.out.symm, Gr.trans (Gr.trans (((Gr.refl w).alloc _).drew) hg2) hg3⟩
end Go.Proofs.YtfeeolfekfkdiaaDoor
