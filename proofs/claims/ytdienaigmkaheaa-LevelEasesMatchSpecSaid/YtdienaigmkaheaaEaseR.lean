/- Ease, of the reference. -/
import Derived.Test.YtdienaigmkaheaaLvR
import Derived.Test.YtdienaigmkaheaaEaseP
namespace Go.Proofs.Ytdienaigmkaheaa
open Go.RowKit

set_option maxRecDepth 100000 in
set_option maxHeartbeats 3200000 in
theorem ease_ref0 (k : Int) (l : List (Int × Int)) (sv : Value) (p q : Int) (w : World) (h : PtsAny w sv l)
    (hY : ckCurve k l = 0 → ∀ w' v, Bl w w' → Fr w' v p q → 0 ≤ p → p ≤ q → 1 ≤ q → q ≤ 36000000 → Calls Try.prog 31 #[.agg #[.int .i64 k, sv], v] w' (PGood (wN k l p q) (wD k l p q) w')) :
    Calls Try.prog 15 #[.agg #[.int .i64 k, sv], .int .i64 p, .int .i64 q] w fun e w' => e = .returned (.tuple #[.int .i64 (eaV k l p q), .int .i64 (eaX k l p q)]) ∧ Bl w w' := by
  have HC := fun w1 (g : Bl w w1) => checkCurve_ref k sv l w1 (h.bl g)
  unfold PCk at HC
  obtain ⟨o, n, cap, hsv⟩ : ∃ o n cap, sv = .slice o n cap := by
    rcases h with ⟨o, cap, rfl, rfl⟩ | ⟨b, off, cap, rfl, h2, h3⟩
    · exact ⟨_, _, _, rfl⟩
    · exact ⟨_, _, _, rfl⟩
  by_cases hc : ckCurve k l = 0
  · rw [hc] at HC
    have HC := Lib.hid HC
    have hQ := fun w => within_any q 1 36000000 w
    have hP := fun w => within_any p 0 q w
    cases hq : (decide (1 ≤ q) && decide (q ≤ 36000000)) with
    | false =>
      have e := Lib.hid (ea_pt (k := k) (l := l) (p := p) (q := q) hc (by unfold isPt; rw [hq]; rfl))
      rw [hq] at hQ
      have HQ := Lib.hid hQ
      clear h hc hq hQ hP hY
      subst hsv
      go_enter Try.func15, Try.ntmps15
      go_wp2_with fail
      refine (HC.out _ ((Bl.refl w).alloc _)).mono ?_
      rintro e' w1 ⟨rfl, g1⟩
      go_wp2_with fail
      refine (HQ.out _).mono ?_
      rintro e' w2 ⟨rfl, rfl⟩
      go_wp2_with fail
      go_returns
      exact ⟨by rw [e.out.1, e.out.2]; rfl, ((Bl.refl w).alloc _).trans g1⟩
    | true =>
    rw [hq] at hQ
    have HQ := Lib.hid hQ
    clear hQ
    cases hp : (decide (0 ≤ p) && decide (p ≤ q)) with
    | false =>
      have e := Lib.hid (ea_pt (k := k) (l := l) (p := p) (q := q) hc (by unfold isPt; rw [Bool.and_assoc (decide (1 ≤ q) && decide (q ≤ 36000000)), hq, hp]; rfl))
      rw [hp] at hP
      have HP := Lib.hid hP
      clear h hc hq hp hP hY
      subst hsv
      go_enter Try.func15, Try.ntmps15
      go_wp2_with fail
      refine (HC.out _ ((Bl.refl w).alloc _)).mono ?_
      rintro e' w1 ⟨rfl, g1⟩
      go_wp2_with fail
      refine (HQ.out _).mono ?_
      rintro e' w2 ⟨rfl, rfl⟩
      go_wp2_with fail
      refine (HP.out _).mono ?_
      rintro e' w2 ⟨rfl, rfl⟩
      go_wp2_with fail
      go_returns
      exact ⟨by rw [e.out.1, e.out.2]; rfl, ((Bl.refl w).alloc _).trans g1⟩
    | true =>
      have e := ea_ok (k := k) (l := l) (p := p) (q := q) hc (by unfold isPt; rw [Bool.and_assoc (decide (1 ≤ q) && decide (q ≤ 36000000)), hq, hp]; rfl)
      have hq' : 1 ≤ q ∧ q ≤ 36000000 := by simpa using hq
      have hp' : 0 ≤ p ∧ p ≤ q := by simpa using hp
      rw [hp] at hP
      have HP := Lib.hid hP
      have hw := way_ok (curve_of (curveAt_of h hc)) hp'.1 hp'.2 hq'.1 hq'.2
      have hz : btw (wN k l p q) (wD k l p q) 0 65535 = rnd (wN k l p q) (wD k l p q) 65535 := by unfold btw; rw [if_neg (by omega)]; simp
      have TY := Lib.hid (fun w' v (g : Bl w w') (hv : Fr w' v p q) => hY hc w' v g hv hp'.1 hp'.2 hq'.1 hq'.2)
      have TM := Lib.hid (fun w' v (hv : GoodFr w' v (wN k l p q) (wD k l p q)) => mix_good 0 65535 v (wN k l p q) (wD k l p q) w' hv hw.2.2.1 (by omega) (by omega) (by omega) (by omega))
      have TP := Lib.hid (fun w' => part_any p q w' hp'.1 (by omega) (by omega) (by omega))
      rw [← hz] at e
      have e := Lib.hid e
      clear h hc hq hp hP hw hz hq' hp' hY
      subst hsv
      go_enter Try.func15, Try.ntmps15
      go_wp2_with fail
      refine (HC.out _ ((Bl.refl w).alloc _)).mono ?_
      rintro e' w1 ⟨rfl, g1⟩
      have g1' := g1
      obtain ⟨k0, k1⟩ := box2 rfl g1
      go_wp2_with fail
      refine (HQ.out _).mono ?_
      rintro e' w2 ⟨rfl, rfl⟩
      go_wp2_with fail
      refine (HP.out _).mono ?_
      rintro e' w2 ⟨rfl, rfl⟩
      go_wp2_with fail
      go_region_held3 (fun w' => w'.cell? ⟨w.heap.size, 0, none⟩ = some (.int .i64 k) ∧ w'.cell? ⟨w.heap.size, 1, none⟩ = some (.slice o n cap))
        (refine ⟨Bl.cell (w := w1) ?_ k0, Bl.cell (w := w1) ?_ k1⟩ <;> ((repeat (first | with_reducible exact Bl.refl _ | with_reducible assumption | with_reducible refine Bl.drew ?_ | with_reducible refine Bl.alloc ?_ _ | with_reducible refine Bl.trans ?_ (by assumption))); done))
        (first
          | (go_at_call 21; refine (TP.out _).mono ?_; rintro e' w3 ⟨v1, rfl, h1, g3⟩; have H1 := Lib.hid h1; clear h1)
          | (go_at_call 31; refine (TY.out _ _ (by refine Bl.trans ((Bl.refl w).alloc _) (Bl.trans g1' ?_); ((repeat (first | with_reducible exact Bl.refl _ | with_reducible assumption | with_reducible refine Bl.drew ?_ | with_reducible refine Bl.alloc ?_ _ | with_reducible refine Bl.trans ?_ (by assumption))); done)) (H1.out.bl (by ((repeat (first | with_reducible exact Bl.refl _ | with_reducible assumption | with_reducible refine Bl.drew ?_ | with_reducible refine Bl.alloc ?_ _ | with_reducible refine Bl.trans ?_ (by assumption))); done)))).mono ?_; rintro e' w4 ⟨v2, rfl, h2, g4⟩; have H2 := Lib.hid h2; clear h2)
          | (go_at_call 26; refine (TM.out _ _ (H2.out.bl (by ((repeat (first | with_reducible exact Bl.refl _ | with_reducible assumption | with_reducible refine Bl.drew ?_ | with_reducible refine Bl.alloc ?_ _ | with_reducible refine Bl.trans ?_ (by assumption))); done)))).mono ?_; rintro e' w5 ⟨rfl, g5⟩))
      go_wp2_with fail
      go_returns
      exact ⟨by rw [e.out.1, e.out.2]; rfl, Bl.trans ((Bl.refl w).alloc _) (Bl.trans g1' (by ((repeat (first | with_reducible exact Bl.refl _ | with_reducible assumption | with_reducible refine Bl.drew ?_ | with_reducible refine Bl.alloc ?_ _ | with_reducible refine Bl.trans ?_ (by assumption))); done)))⟩
  · have e := Lib.hid (ea_ck (k := k) (l := l) (p := p) (q := q) hc)
    generalize hcc : ckCurve k l = cc at *
    have hb : (cc != 0) = true := by simpa using hc
    have HC := Lib.hid HC
    clear h hc hcc hY
    subst hsv
    go_enter Try.func15, Try.ntmps15
    go_wp2_with fail
    refine (HC.out _ ((Bl.refl w).alloc _)).mono ?_
    rintro e' w1 ⟨rfl, g1⟩
    go_wp2_with fail
    go_returns
    exact ⟨by rw [e.out.1, e.out.2]; rfl, ((Bl.refl w).alloc _).trans g1⟩
end Go.Proofs.Ytdienaigmkaheaa
