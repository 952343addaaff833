/- Ease of the program. -/
import Derived.Test.YtdienaigmkaheaaCurves
import Derived.Test.YtdienaigmkaheaaBox
import Derived.Test.YtdienaigmkaheaaPart
namespace Go.Proofs.Ytdienaigmkaheaa
open Go.RowKit

/-- What Ease gives. -/
def eaV (k : Int) (l : List (Int × Int)) (p q : Int) : Int := if ckCurve k l ≠ 0 then 0 else if isPt p q = true then rnd (wN k l p q) (wD k l p q) 65535 else 0
def eaX (k : Int) (l : List (Int × Int)) (p q : Int) : Int := if ckCurve k l ≠ 0 then ckCurve k l else if isPt p q = true then 0 else 1
theorem ea_ck {k p q : Int} {l : List (Int × Int)} (h : ckCurve k l ≠ 0) : eaV k l p q = 0 ∧ eaX k l p q = ckCurve k l := by unfold eaV eaX; rw [if_pos h, if_pos h]; exact ⟨rfl, rfl⟩
theorem ea_pt {k p q : Int} {l : List (Int × Int)} (h : ckCurve k l = 0) (h2 : isPt p q = false) : eaV k l p q = 0 ∧ eaX k l p q = 1 := by
  have h' : ¬ ckCurve k l ≠ 0 := fun hh => hh h
  unfold eaV eaX; rw [if_neg h', if_neg h', h2]; exact ⟨rfl, rfl⟩
theorem ea_ok {k p q : Int} {l : List (Int × Int)} (h : ckCurve k l = 0) (h2 : isPt p q = true) : eaV k l p q = rnd (wN k l p q) (wD k l p q) 65535 ∧ eaX k l p q = 0 := by
  have h' : ¬ ckCurve k l ≠ 0 := fun hh => hh h
  unfold eaV eaX; rw [if_neg h', if_neg h', h2]; exact ⟨rfl, rfl⟩

set_option maxHeartbeats 1600000 in
theorem ease_prog (k : Int) (l : List (Int × Int)) (sv : Value) (p q : Int) (w : World) (h : PtsAny w sv l) :
    Calls Try.prog 14 #[.agg #[.int .i64 k, sv], .int .i64 p, .int .i64 q] w fun e w' => e = .returned (.tuple #[.int .i64 (eaV k l p q), .int .i64 (eaX k l p q)]) ∧ Gr w w' := by
  have HC := fun w1 (g : Gr w w1) => checkCurve_any k sv l w1 (h.gr g)
  by_cases hc : ckCurve k l = 0
  · rw [hc] at HC
    have HC := Lib.hid HC
    have hP := fun w => isPart_any p q w
    cases hp : isPt p q with
    | false =>
      have e := Lib.hid (ea_pt (k := k) (l := l) hc hp)
      rw [hp] at hP
      have HP := Lib.hid hP
      clear h hc hp hP
      go_enter Try.func14, Try.ntmps14
      go_wp2_with fail
      refine (HC.out _ ((Gr.refl w).alloc _)).mono ?_
      rintro e w1 ⟨rfl, g1⟩
      go_wp2_with fail
      refine (HP.out _).mono ?_
      rintro e w2 ⟨rfl, rfl⟩
      go_wp2_with fail
      go_returns
      exact ⟨by rw [e.out.1, e.out.2]; rfl, ((Gr.refl w).alloc _).trans g1⟩
    | true =>
      have e := Lib.hid (ea_ok (k := k) (l := l) hc hp)
      obtain ⟨q1, q2, p0, p1⟩ := isPt_iff.1 hp
      rw [hp] at hP
      have HP := Lib.hid hP
      have HS := Lib.hid (fun w1 (g : Gr w w1) => shape_any k l sv w1 (curveAt_of (h.gr g) hc))
      have HOK := Lib.hid (way_ok (⟨(curveAt_of h hc).lo, (curveAt_of h hc).hi, fun e => ((curveAt_of h hc).tab e).1⟩ : OkCurve k l) p0 p1 q1 q2)
      clear h hc hp hP
      go_enter Try.func14, Try.ntmps14
      go_wp2_with fail
      refine (HC.out _ ((Gr.refl w).alloc _)).mono ?_
      rintro e w1 ⟨rfl, g1⟩
      obtain ⟨k0, k1⟩ := box2 rfl g1.bl
      go_wp2_with fail
      refine (HP.out _).mono ?_
      rintro e w2 ⟨rfl, rfl⟩
      go_wp2_with fail
      refine (HS.out _ (((Gr.refl w).alloc _).trans g1)).mono ?_
      rintro e w3 ⟨v, rfl, hV, g2⟩
      obtain ⟨g, cb, rfl, eg, hf⟩ := hV
      have HV := Lib.hid (fun w1 (g1 : Gr w3 w1) => hf w1 p q g1.bl p0 p1 q1 q2)
      clear hf
      go_wp2_with fail
      refine (HV.out _ (Gr.refl _)).mono ?_
      rintro e w4 ⟨nh, nl, dh, dl, rfl, HH, g3⟩
      have HH := Lib.hid HH
      go_wp2_with fail
      refine (of_any nh nl dh dl _ _ 65535 _ HH.out.1 HH.out.2 HOK.out (by omega) (by omega)).mono ?_
      rintro e w5 ⟨rfl, g4⟩
      go_wp2_with fail
      go_returns
      exact ⟨by rw [e.out.1, e.out.2]; rfl, (((((Gr.refl w).alloc _).trans g1).trans g2).trans g3).trans g4⟩
  · have e := Lib.hid (ea_ck (k := k) (l := l) (p := p) (q := q) hc)
    generalize hcc : ckCurve k l = cc at *
    have hb : (cc != 0) = true := by simpa using hc
    have HC := Lib.hid HC
    clear h hc hcc
    go_enter Try.func14, Try.ntmps14
    go_wp2_with fail
    refine (HC.out _ ((Gr.refl w).alloc _)).mono ?_
    rintro e w1 ⟨rfl, g1⟩
    go_wp2_with fail
    go_returns
    exact ⟨by rw [e.out.1, e.out.2]; rfl, ((Gr.refl w).alloc _).trans g1⟩

end Go.Proofs.Ytdienaigmkaheaa
