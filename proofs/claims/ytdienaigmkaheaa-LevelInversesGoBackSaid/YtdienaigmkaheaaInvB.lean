/- LevelInversesGoBack is proved: the inverse of a curve has from the end what the curve has from the beginning, but for rounding, for all curves and parts, with no condition. -/
import Derived.Test.YtdienaigmkaheaaInvK
import Derived.Test.YtdienaigmkaheaaEaseP
import Derived.Test.YtdienaigmkaheaaLawKit
import Derived.Test.YtdienaigmkaheaaOpen
namespace Go.Proofs.Ytdienaigmkaheaa.inverses
open Go.ChangeShapes Go.WideShapes Go.ChangeAt Go.RowKit

set_option maxRecDepth 100000 in
set_option maxHeartbeats 1600000 in
theorem walk (k : Int) (sv : Value) (l : List (Int × Int)) (p q : Int) (w : World) (h : PtsAny w sv l) :
    Calls Try.prog 5 #[.agg #[.int .i64 k, sv], .int .i64 p, .int .i64 q] w fun e w' => e = .returned (.bool true) ∧ Bl w w' := by
  have HI := Lib.hid (fun w' (g : Bl w w') => inverse_any k sv l w' (h.bl g))
  have HE := Lib.hid (fun w' (g : Bl w w') => ease_prog k l sv p q w' (h.bl g))
  obtain ⟨o, n, cap, hsv⟩ := h.form
  clear h
  subst hsv
  by_cases hx : ivX k l = 0
  · have hck : ckCurve k l = 0 := by
      by_cases hc : ckCurve k l = 0
      · exact hc
      · rw [(iv_ck hc).1] at hx; exact hx
    have h5 : k ≠ 5 := by
      intro e
      subst e
      rw [(iv_five hck).1] at hx; cases hx
    obtain ⟨e1, e2, e3⟩ := iv_ok hck h5
    cases hp : isPt p q with
    | false =>
      obtain ⟨a1, a2⟩ := ea_pt (k := k) (l := l) hck hp
      rw [a1, a2] at HE
      replace HI := Lib.hid (fun w' (g : Bl w w') => (HI.out w' g).mono fun e w'' ⟨v, h1, h2, h3⟩ => (⟨v, h1.trans (by rw [e1]), h2, h3⟩ : ∃ v, e = Ending.returned (.tuple #[.agg #[.int .i64 (ivK k l), v], .int .i64 0]) ∧ PtsAny w'' v (ivL k l) ∧ Bl w' w''))
      clear hx hck h5 e1 e2 e3 hp a1 a2
      go_enter Try.func5, Try.ntmps5
      go_wp2_with fail
      refine (HI.out _ ((Bl.refl w).alloc _)).mono ?_
      rintro e w1 ⟨v, rfl, hv, g1⟩
      obtain ⟨o2, n2, cap2, hv2⟩ := hv.form
      subst hv2
      obtain ⟨k0, k1⟩ := box2 rfl g1
      have hb1 : Bl w w1 := ((Bl.refl w).alloc _).trans g1
      have hs0 : w.heap.size < w1.heap.size := by have := g1.size; simp at this; omega
      go_wp2_with fail
      refine (HE.out _ (hb1.alloc _)).mono ?_
      rintro e w2 ⟨rfl, g2⟩
      obtain ⟨y0, y1⟩ := box2 rfl g2.bl
      go_wp2_with fail
      go_returns
      exact ⟨by first | rfl | exact (by simp), (hb1.alloc _).trans g2.bl⟩
    | true =>
      obtain ⟨q1, q2, p0, p1⟩ := isPt_iff.1 hp
      obtain ⟨a1, a2⟩ := ea_ok (k := k) (l := l) hck hp
      have hp2 : isPt (q - p) q = true := isPt_iff.2 ⟨q1, q2, by omega, by omega⟩
      have hc2 := ck_inv hck h5
      obtain ⟨b1, b2⟩ := ea_ok (k := invK k) (l := if k = 6 then invL l else []) hc2 hp2
      have hs := inv_sum (okc hck) h5 p0 p1 q1 q2
      rw [← a1, ← b1] at hs
      have r0 : 0 ≤ eaV k l p q ∧ eaV k l p q ≤ 65535 := by
        rw [a1]
        obtain ⟨w1, w2, w3, w4⟩ := way_ok (okc hck) p0 p1 q1 q2
        exact ⟨rnd_nonneg w3 w1 (by decide), rnd_le w3 w2 (by decide)⟩
      rw [a2] at HE
      replace HI := Lib.hid (fun w' (g : Bl w w') => (HI.out w' g).mono fun e w'' ⟨v, h1, h2, h3⟩ => (⟨v, h1.trans (by rw [e1, e2]), by rw [← e3]; exact h2, h3⟩ : ∃ v, e = Ending.returned (.tuple #[.agg #[.int .i64 (invK k), v], .int .i64 0]) ∧ PtsAny w'' v (if k = 6 then invL l else []) ∧ Bl w' w''))
      have HF := Lib.hid (fun v w' (g : PtsAny w' v (if k = 6 then invL l else [])) => show Calls Try.prog 14 #[.agg #[.int .i64 (invK k), v], .int .i64 (q - p), .int .i64 q] w' fun e w'' => e = .returned (.tuple #[.int .i64 (eaV (invK k) (if k = 6 then invL l else []) (q - p) q), .int .i64 0]) ∧ Gr w' w'' from by
        have := ease_prog (invK k) (if k = 6 then invL l else []) v (q - p) q w' g
        rwa [b2] at this)
      clear hx hck h5 e1 e2 e3 hp a1 a2 hp2 hc2 b1 b2
      generalize eaV k l p q = x at *
      generalize eaV (invK k) (if k = 6 then invL l else []) (q - p) q = y at *
      generalize invK k = k2 at *
      generalize (if k = 6 then invL l else []) = l2 at *
      obtain ⟨x0, x1⟩ := r0
      have HS := Lib.hid hs
      have hy0 : 0 ≤ x + y := by omega
      have hy1 : x + y ≤ 65536 := by omega
      have hq0 : 0 ≤ q - p := by omega
      have hq1 : q - p ≤ 36000000 := by omega
      clear hs
      go_enter Try.func5, Try.ntmps5
      go_wp2_with fail
      refine (HI.out _ ((Bl.refl w).alloc _)).mono ?_
      rintro e w1 ⟨v, rfl, hv, g1⟩
      obtain ⟨o2, n2, cap2, hv2⟩ := hv.form
      subst hv2
      have HVV := Lib.hid hv
      clear hv
      obtain ⟨k0, k1⟩ := box2 rfl g1
      have hb1 : Bl w w1 := ((Bl.refl w).alloc _).trans g1
      have hs0 : w.heap.size < w1.heap.size := by have := g1.size; simp at this; omega
      go_wp2_with fail
      refine (HE.out _ (hb1.alloc _)).mono ?_
      rintro e w2 ⟨rfl, g2⟩
      obtain ⟨y0, y1⟩ := box2 rfl g2.bl
      have hb2 : Bl w1 w2 := ((Bl.refl w1).alloc _).trans g2.bl
      go_wp2_with fail
      refine (HF.out _ _ (HVV.out.bl hb2)).mono ?_
      rintro e w3 ⟨rfl, g3⟩
      rcases HS.out with hs | hs
      · have hs' : (x + y == 65535) = true := by rw [hs]; rfl
        clear hs
        go_wp2_with fail
        go_returns
        exact ⟨by first | rfl | exact (by simp), (hb1.trans hb2).trans g3.bl⟩
      · have hs' : (x + y == 65535) = false := by rw [hs]; rfl
        have hs2 : (x + y == 65536) = true := by rw [hs]; rfl
        clear hs
        go_wp2_with fail
        go_returns
        exact ⟨by first | rfl | exact (by simp), (hb1.trans hb2).trans g3.bl⟩
  · have hl : ivL k l = [] := if_pos hx
    have hb : (ivX k l != 0) = true := by simpa using hx
    have HI2 := Lib.hid (fun w' (g : Bl w w') => (HI.out w' g).mono fun e w'' ⟨v, h1, h2, h3⟩ => (⟨v, h1, by rw [← hl]; exact h2, h3⟩ : ∃ v, e = Ending.returned (.tuple #[.agg #[.int .i64 (ivK k l), v], .int .i64 (ivX k l)]) ∧ PtsAny w'' v [] ∧ Bl w' w''))
    clear hx hl HI
    generalize ivX k l = x at *
    generalize ivK k l = k2 at *
    generalize eaV k l p q = y at *
    generalize eaX k l p q = z at *
    go_enter Try.func5, Try.ntmps5
    go_wp2_with fail
    refine (HI2.out _ ((Bl.refl w).alloc _)).mono ?_
    rintro e w1 ⟨v, rfl, hv, g1⟩
    obtain ⟨o2, cap2, hv2⟩ : ∃ o2 cap2, v = .slice o2 0 cap2 := by
      rcases hv with ⟨o2, cap2, rfl, _⟩ | ⟨b, off, cap2, rfl, _⟩
      · exact ⟨_, _, rfl⟩
      · exact ⟨_, _, rfl⟩
    subst hv2
    obtain ⟨k0, k1⟩ := box2 rfl g1
    have hb1 : Bl w w1 := ((Bl.refl w).alloc _).trans g1
    have hs0 : w.heap.size < w1.heap.size := by have := g1.size; simp at this; omega
    go_wp2_with fail
    refine (HE.out _ (hb1.alloc _)).mono ?_
    rintro e w2 ⟨rfl, g2⟩
    obtain ⟨y0, y1⟩ := box2 rfl g2.bl
    go_wp2_with fail
    go_returns
    exact ⟨by first | rfl | exact (by simp), (hb1.alloc _).trans g2.bl⟩
theorem own : ownKnob Try.prog.godebug = none := by kernel_rfl
theorem laid : laidOutB Try.prog = true := by kernel_rfl

set_option maxRecDepth 100000 in
theorem lifted (os : Os) (started : os.Started) (H : Type) (enc : TypeId × Value → H) :
    ReturnsInHanded {} Try.checked os 5 .any (Rows.levelInversesGoBackSpec.pre6 enc Try.prog Try.f5 Rows.levelInversesGoBackRow.domain false) (Rows.levelInversesGoBackSpec.post enc Try.prog Try.f5 false true false false) := by
  refine returnsInHanded_of_change (C := Try.checked) own started (by kernel_rfl) Try.func5
    (ChangeSpec.witness6 (enc := enc) (C := Try.checked) false ⟨#[], #[.agg #[.int .i64 0, .slice none 0 0], .int .i64 0, .int .i64 0], []⟩ 8 (by kernel_rfl) (by kernel_rfl) (by kernel_rfl) (by kernel_rfl)) ?_
  intro W base args ds gs before hval0 hW hcnd _
  have hval : ∀ (j : Nat) t v, Try.f5.params[j]? = some t → args[j]? = some v → Value.okWide Try.prog W .any base t v := hval0
  have hW' := hW
  obtain ⟨p, q, hA0, hV, rfl, hfz, hnd⟩ := hW
  have hA : DataW.TrodAll enc Try.prog W 0 (fun _ => true) true Try.f5.params.toList args.toList ds p := hA0
  rw [Try.params5] at hA hval
  obtain ⟨v0, vs0, d0, ds0, p0, q0, hargs, rfl, rfl, h0, r0⟩ := trodAll_cons hA
  obtain ⟨v1, vs1, d1, ds1, p1, q1, rfl, rfl, rfl, h1, r1⟩ := trodAll_cons r0
  obtain ⟨v2, vs2, d2, ds2, p2, q2, rfl, rfl, rfl, h2, r2⟩ := trodAll_cons r1
  obtain ⟨rfl, rfl, rfl⟩ := trodAll_nil r2
  obtain rfl : args = #[v0, v1, v2] := by cases args; simp_all
  obtain ⟨rfl, rfl⟩ := trodVars_none hV
  obtain ⟨k0, sv0, l0, rfl, wk0, hp0, wp0⟩ := open_curve (hval 0 32 v0 rfl rfl) h0
  obtain ⟨a1, rfl, rfl, rfl, w1⟩ := open_int Try.underlying3 (hval 1 3 v1 rfl rfl) h1
  obtain ⟨a2, rfl, rfl, rfl, w2⟩ := open_int Try.underlying3 (hval 2 3 v2 rfl rfl) h2
  clear hA0 hval0
  refine (walk k0 sv0 l0 a1 a2 W hp0).mono fun e W' ⟨he, hg⟩ => ?_
  subst he
  exact ⟨_, rfl, law_old hW' rfl rfl (by kernel_rfl) Try.underlying4 laid (by kernel_rfl) hg⟩

theorem over : Rows.levelInversesGoBackRow.holds Try.pinned (OpenSpec.ofChange Rows.levelInversesGoBackSpec) :=
  OpenClaim.holds_of_wide 5 Try.f5 rfl rfl rfl rfl rfl rfl rfl ⟨rfl, rfl, rfl, rfl, rfl⟩ rfl rfl rfl rfl rfl (by kernel_rfl) Try.func5 (by kernel_rfl)
    (of_decide_eq_true (by kernel_rfl)) (by unfold Func.isWrapper; first | (rw [if_pos (by decide +kernel)]; kernel_rfl) | (rw [if_neg (by decide +kernel)]; exact ⟨rfl, rfl⟩))
    (fun os started H enc _ => lifted os started H enc)

/-- The statement. -/
theorem proved : Rows.LevelInversesGoBackSaid :=
  over
end Go.Proofs.Ytdienaigmkaheaa.inverses

