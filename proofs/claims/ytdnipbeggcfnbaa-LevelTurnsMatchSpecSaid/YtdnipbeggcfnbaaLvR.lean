/- The reference's LevelAt, At and Reach, where its Way is known. -/
import Derived.Test.YtdnipbeggcfnbaaFirR
import Derived.Test.YtdnipbeggcfnbaaWayR
import Derived.Test.YtdnipbeggcfnbaaMixF
namespace Go.Proofs.Ytdnipbeggcfnbaa
open Go.RowKit

theorem mix_good (a b : Int) (v : Value) (N D : Int) (w : World) (hg : GoodFr w v N D) (hD : 0 < D) (a0 : 0 ≤ a) (a1 : a ≤ 65535) (b0 : 0 ≤ b) (b1 : b ≤ 65535) :
    Calls Try.prog 53 #[.int .i64 a, .int .i64 b, v] w fun e w' => e = .returned (.int .i64 (btw N D a b)) ∧ Bl w w' := by
  obtain ⟨P, Q, hf, p0, p1, q1, he⟩ := hg
  have q0 : 0 < Q := by obtain ⟨_, _, _, _, _, _, _, _, _, _, h, _⟩ := hf; exact h
  have := mix_ref a b v P Q w hf a0 a1 b0 b1 p0 p1 q1
  rwa [mix_btw q0 hD he] at this

set_option maxRecDepth 100000 in
set_option maxHeartbeats 3200000 in
theorem levelAt_ref0 (F T S Dl Tm k t : Int) (sv : Value) (l : List (Int × Int)) (w : World) (h : PtsAny w sv l) (hc : ckFade F T S Dl Tm k l = 0) (hY : ∀ w' v p q, Bl w w' → Fr w' v p q → 0 ≤ p → p ≤ q → 1 ≤ q → q ≤ 36000000 → Calls Try.prog 58 #[.agg #[.int .i64 k, sv], v] w' (PGood (wN k l p q) (wD k l p q) w')) (t0 : 0 ≤ t) (t1 : t ≤ 36000000) :
    Calls Try.prog 63 #[.agg #[.int .i64 F, .int .i64 T, .int .i64 S, .int .i64 Dl, .int .i64 Tm, .int .i64 k, sv], .int .i64 t] w fun e w' => e = .returned (.int .i64 (fadeAt F T S Dl Tm k l t)) ∧ Bl w w' := by
  obtain ⟨hok, hcc⟩ := okFade_of hc
  obtain ⟨f0, f1, q0, q1, s0, s1, d0, d1, m0, m1, e1, hcv⟩ := hok
  obtain ⟨o, n, cap, hsv⟩ : ∃ o n cap, sv = .slice o n cap := by
    rcases h with ⟨o, cap, rfl, rfl⟩ | ⟨b, off, cap, rfl, h2, h3⟩
    · exact ⟨_, _, _, rfl⟩
    · exact ⟨_, _, _, rfl⟩
  by_cases h1 : S + Dl + Tm ≤ t
  · have e : Hid (fadeAt F T S Dl Tm k l t = T) := if_pos h1
    clear h hc hcv hcc hY
    subst hsv
    go_enter Try.func63, Try.ntmps63
    go_wp2_with fail
    go_returns
    exact ⟨ret_int e.out.symm, (Bl.refl w).alloc _⟩
  by_cases h2 : t ≤ S + Dl
  · have e : Hid (fadeAt F T S Dl Tm k l t = F) := by show fadeAt F T S Dl Tm k l t = F; unfold fadeAt; rw [if_neg h1, if_pos h2]
    clear h hc hcv hcc hY
    subst hsv
    go_enter Try.func63, Try.ntmps63
    go_wp2_with fail
    go_returns
    exact ⟨ret_int e.out.symm, (Bl.refl w).alloc _⟩
  · obtain ⟨u, hu⟩ : ∃ u, u = t - (S + Dl) := ⟨_, rfl⟩
    have e0 : fadeAt F T S Dl Tm k l t = btw (wN k l u Tm) (wD k l u Tm) F T := by unfold fadeAt; rw [if_neg h1, if_neg h2, hu]
    have TY := Lib.hid (fun w' v (g : Bl w w') (hv : Fr w' v u Tm) => hY w' v u Tm g hv (by omega) (by omega) (by omega) (by omega))
    have hw := way_ok hcv (p := u) (q := Tm) (by omega) (by omega) (by omega) (by omega)
    have TM := Lib.hid (fun w' v (hv : GoodFr w' v (wN k l u Tm) (wD k l u Tm)) => mix_good F T v (wN k l u Tm) (wD k l u Tm) w' hv hw.2.2.1 f0 f1 q0 q1)
    have TP := Lib.hid (fun w' => part_any u Tm w' (by omega) (by omega) (by omega) (by omega))
    have e := Lib.hid e0
    have hwr : IntKind.i64.wrap (t - (S + Dl)) = u := by rw [hu]; exact IntWalk.i64_in _ (by omega)
    have hu1 : 1 ≤ u := by omega
    have hu2 : u < Tm := by omega
    clear h hc hcv hcc hw e0 hu h1 h2 hY
    subst hsv
    go_enter Try.func63, Try.ntmps63
    go_wp2_with fail
    obtain ⟨W0, hW0⟩ : ∃ W0, W0 = w.alloc (.cells #[.int .i64 F, .int .i64 T, .int .i64 S, .int .i64 Dl, .int .i64 Tm, .int .i64 k, .slice o n cap] 46) := ⟨_, rfl⟩
    have hbl0 : Bl w W0 := by rw [hW0]; exact (Bl.refl w).alloc _
    obtain ⟨k0, k1, k2, k3, k4, k5, k6⟩ := own7b (W := w) (W' := W0) (n := w.heap.size) (a := .int .i64 F) (b := .int .i64 T) (c := .int .i64 S) (d := .int .i64 Dl) (x := .int .i64 Tm) (y := .int .i64 k) (z := .slice o n cap) (t := 46) rfl (by rw [hW0]; exact Bl.refl _)
    rw [← hW0]
    clear hW0
    go_region_held3 (fun w' => w'.cell? ⟨w.heap.size, 0, none⟩ = some (.int .i64 F) ∧ w'.cell? ⟨w.heap.size, 1, none⟩ = some (.int .i64 T) ∧ w'.cell? ⟨w.heap.size, 4, none⟩ = some (.int .i64 Tm) ∧ w'.cell? ⟨w.heap.size, 5, none⟩ = some (.int .i64 k) ∧ w'.cell? ⟨w.heap.size, 6, none⟩ = some (.slice o n cap))
      (refine ⟨Bl.cell (w := W0) ?_ k0, Bl.cell (w := W0) ?_ k1, Bl.cell (w := W0) ?_ k4, Bl.cell (w := W0) ?_ k5, Bl.cell (w := W0) ?_ k6⟩ <;> ((repeat (first | with_reducible exact Bl.refl _ | with_reducible assumption | with_reducible refine Bl.drew ?_ | with_reducible refine Bl.alloc ?_ _ | with_reducible refine Bl.trans ?_ (by assumption))); done))
      (first
        | (go_at_call 48; refine (TP.out _).mono ?_; rintro e' w1 ⟨v1, rfl, h1, g1⟩; have H1 := Lib.hid h1; clear h1)
        | (go_at_call 58; refine (TY.out _ _ (by refine Bl.trans hbl0 ?_; ((repeat (first | with_reducible exact Bl.refl _ | with_reducible assumption | with_reducible refine Bl.drew ?_ | with_reducible refine Bl.alloc ?_ _ | with_reducible refine Bl.trans ?_ (by assumption))); done)) (H1.out.bl (by ((repeat (first | with_reducible exact Bl.refl _ | with_reducible assumption | with_reducible refine Bl.drew ?_ | with_reducible refine Bl.alloc ?_ _ | with_reducible refine Bl.trans ?_ (by assumption))); done)))).mono ?_; rintro e' w2 ⟨v2, rfl, h2, g2⟩; have H2 := Lib.hid h2; clear h2)
        | (go_at_call 53; refine (TM.out _ _ (H2.out.bl (by ((repeat (first | with_reducible exact Bl.refl _ | with_reducible assumption | with_reducible refine Bl.drew ?_ | with_reducible refine Bl.alloc ?_ _ | with_reducible refine Bl.trans ?_ (by assumption))); done)))).mono ?_; rintro e' w3 ⟨rfl, g3⟩))
    go_wp2_with fail
    go_returns
    exact ⟨ret_int e.out.symm, Bl.trans hbl0 (by ((repeat (first | with_reducible exact Bl.refl _ | with_reducible assumption | with_reducible refine Bl.drew ?_ | with_reducible refine Bl.alloc ?_ _ | with_reducible refine Bl.trans ?_ (by assumption))); done))⟩

set_option maxRecDepth 100000 in
set_option maxHeartbeats 3200000 in
theorem at_ref0 (F T S Dl Tm k t : Int) (sv : Value) (l : List (Int × Int)) (w : World) (h : PtsAny w sv l)
    (hL : ckFade F T S Dl Tm k l = 0 → ∀ w' t, Bl w w' → 0 ≤ t → t ≤ 36000000 → Calls Try.prog 63 #[.agg #[.int .i64 F, .int .i64 T, .int .i64 S, .int .i64 Dl, .int .i64 Tm, .int .i64 k, sv], .int .i64 t] w' fun e w'' => e = .returned (.int .i64 (fadeAt F T S Dl Tm k l t)) ∧ Bl w' w'') :
    Calls Try.prog 31 #[.agg #[.int .i64 F, .int .i64 T, .int .i64 S, .int .i64 Dl, .int .i64 Tm, .int .i64 k, sv], .int .i64 t] w fun e w' => e = .returned (.tuple #[.int .i64 (atA F T S Dl Tm k l t), .int .i64 (atX F T S Dl Tm k l t)]) ∧ Bl w w' := by
  have HC := fun w1 (g : Bl w w1) => checkFade_ref F T S Dl Tm k sv l w1 (h.bl g)
  unfold PCk at HC
  obtain ⟨o, ln, cap, hsv⟩ : ∃ o n cap, sv = .slice o n cap := by
    rcases h with ⟨o, cap, rfl, rfl⟩ | ⟨b, off, cap, rfl, h2, h3⟩
    · exact ⟨_, _, _, rfl⟩
    · exact ⟨_, _, _, rfl⟩
  by_cases hc : ckFade F T S Dl Tm k l = 0
  · rw [hc] at HC
    have HC := Lib.hid HC
    have hT := fun w => isTime_ref t w
    cases ht : isTm t with
    | true =>
      have e := Lib.hid (And.intro (show atA F T S Dl Tm k l t = fadeAt F T S Dl Tm k l t by unfold atA; rw [if_neg (by simpa using hc), if_pos ht]) (show atX F T S Dl Tm k l t = 0 by unfold atX; rw [if_neg (by simpa using hc), if_pos ht]))
      have TL := Lib.hid (fun w' (g : Bl w w') => hL hc w' t g (isTm_iff.1 ht).1 (isTm_iff.1 ht).2)
      rw [ht] at hT
      have HT := Lib.hid hT
      clear h hc ht hT hL
      subst hsv
      go_enter Try.func31, Try.ntmps31
      go_wp2_with fail
      refine (HC.out _ ((Bl.refl w).alloc _)).mono ?_
      rintro e' w1 ⟨rfl, g1⟩
      obtain ⟨k0, k1, k2, k3, k4, k5, k6⟩ := own7b rfl g1
      go_wp2_with fail
      refine (HT.out _).mono ?_
      rintro e' w2 ⟨rfl, rfl⟩
      go_wp2_with fail
      refine (TL.out _ (((Bl.refl w).alloc _).trans g1)).mono ?_
      rintro e' w3 ⟨rfl, g2⟩
      go_wp2_with fail
      go_returns
      exact ⟨by rw [e.out.1, e.out.2]; rfl, (((Bl.refl w).alloc _).trans g1).trans g2⟩
    | false =>
      have e := Lib.hid (And.intro (show atA F T S Dl Tm k l t = 0 by unfold atA; rw [if_neg (by simpa using hc), if_neg (by rw [ht]; decide)]) (show atX F T S Dl Tm k l t = 1 by unfold atX; rw [if_neg (by simpa using hc), if_neg (by rw [ht]; decide)]))
      rw [ht] at hT
      have HT := Lib.hid hT
      clear h hc ht hT hL
      subst hsv
      go_enter Try.func31, Try.ntmps31
      go_wp2_with fail
      refine (HC.out _ ((Bl.refl w).alloc _)).mono ?_
      rintro e' w1 ⟨rfl, g1⟩
      go_wp2_with fail
      refine (HT.out _).mono ?_
      rintro e' w2 ⟨rfl, rfl⟩
      go_wp2_with fail
      go_returns
      exact ⟨by rw [e.out.1, e.out.2]; rfl, ((Bl.refl w).alloc _).trans g1⟩
  · have e := Lib.hid (And.intro (show atA F T S Dl Tm k l t = 0 by unfold atA; rw [if_pos hc]) (show atX F T S Dl Tm k l t = ckFade F T S Dl Tm k l by unfold atX; rw [if_pos hc]))
    generalize hcc : ckFade F T S Dl Tm k l = cc at *
    have hb : (cc != 0) = true := by simpa using hc
    have HC := Lib.hid HC
    clear h hc hcc hL
    subst hsv
    go_enter Try.func31, Try.ntmps31
    go_wp2_with fail
    refine (HC.out _ ((Bl.refl w).alloc _)).mono ?_
    rintro e' w1 ⟨rfl, g1⟩
    go_wp2_with fail
    go_returns
    exact ⟨by rw [e.out.1, e.out.2]; rfl, ((Bl.refl w).alloc _).trans g1⟩

set_option maxRecDepth 100000 in
set_option maxHeartbeats 3200000 in
theorem reach_ref0 (F T S Dl Tm k n : Int) (sv : Value) (l : List (Int × Int)) (w : World) (h : PtsAny w sv l)
    (hL : ckFade F T S Dl Tm k l = 0 → ∀ w' t, Bl w w' → 0 ≤ t → t ≤ 36000000 → Calls Try.prog 63 #[.agg #[.int .i64 F, .int .i64 T, .int .i64 S, .int .i64 Dl, .int .i64 Tm, .int .i64 k, sv], .int .i64 t] w' fun e w'' => e = .returned (.int .i64 (fadeAt F T S Dl Tm k l t)) ∧ Bl w' w'') :
    Calls Try.prog 37 #[.agg #[.int .i64 F, .int .i64 T, .int .i64 S, .int .i64 Dl, .int .i64 Tm, .int .i64 k, sv], .int .i64 n] w fun e w' => e = .returned (.tuple #[.int .i64 (reV F T S Dl Tm k l n), .bool (reB F T S Dl Tm k l n), .int .i64 (reX F T S Dl Tm k l n)]) ∧ Bl w w' := by
  have HC := fun w1 (g : Bl w w1) => checkFade_ref F T S Dl Tm k sv l w1 (h.bl g)
  unfold PCk at HC
  obtain ⟨o, ln, cap, hsv⟩ : ∃ o n cap, sv = .slice o n cap := by
    rcases h with ⟨o, cap, rfl, rfl⟩ | ⟨b, off, cap, rfl, h2, h3⟩
    · exact ⟨_, _, _, rfl⟩
    · exact ⟨_, _, _, rfl⟩
  by_cases hc : ckFade F T S Dl Tm k l = 0
  · rw [hc] at HC
    have HC := Lib.hid HC
    have hT := fun w => isLevel_ref n w
    cases ht : isLev n with
    | false =>
      have e := Lib.hid (re_lv hc ht)
      rw [ht] at hT
      have HT := Lib.hid hT
      clear h hc ht hT hL
      subst hsv
      go_enter Try.func37, Try.ntmps37
      go_wp2_with fail
      refine (HC.out _ ((Bl.refl w).alloc _)).mono ?_
      rintro e' w1 ⟨rfl, g1⟩
      go_wp2_with fail
      refine (HT.out _).mono ?_
      rintro e' w2 ⟨rfl, rfl⟩
      go_wp2_with fail
      go_returns
      exact ⟨by rw [e.out.1, e.out.2.1, e.out.2.2]; rfl, ((Bl.refl w).alloc _).trans g1⟩
    | true =>
      rw [ht] at hT
      have HT := Lib.hid hT
      obtain ⟨⟨_, _, _, _, s0, s1, d0, d1, m0, m1, e1, _⟩, _⟩ := okFade_of hc
      have hR := fun w' => reached_ref F T S Dl Tm k T n sv o ln cap hsv w'
      cases hr : rchB F T n T with
      | false =>
        have e := Lib.hid (re_no hc ht hr)
        rw [hr] at hR
        have HR := Lib.hid hR
        clear h hc ht hT hr hR hL
        subst hsv
        go_enter Try.func37, Try.ntmps37
        go_wp2_with fail
        refine (HC.out _ ((Bl.refl w).alloc _)).mono ?_
        rintro e' w1 ⟨rfl, g1⟩
        obtain ⟨k0, k1, k2, k3, k4, k5, k6⟩ := own7b rfl g1
        go_wp2_with fail
        refine (HT.out _).mono ?_
        rintro e' w2 ⟨rfl, rfl⟩
        go_wp2_with fail
        refine (HR.out _).mono ?_
        rintro e' w2 ⟨rfl, g2⟩
        go_wp2_with fail
        go_returns
        exact ⟨by rw [e.out.1, e.out.2.1, e.out.2.2]; rfl, (((Bl.refl w).alloc _).trans g1).trans g2⟩
      | true =>
        have e := Lib.hid (re_yes hc ht hr)
        have HF := Lib.hid (fun w' (g : Bl w w') => first_ref0 F T S Dl Tm k S (S + Dl + Tm) n sv l w' (h.bl g) hc (fun w'' t g' t0 t1 => hL hc w'' t (g.trans g') t0 t1) s0 (by omega) e1)
        rw [hr] at hR
        have HR := Lib.hid hR
        clear h hc ht hT hr hR hL
        subst hsv
        go_enter Try.func37, Try.ntmps37
        go_wp2_with fail
        refine (HC.out _ ((Bl.refl w).alloc _)).mono ?_
        rintro e' w1 ⟨rfl, g1⟩
        obtain ⟨k0, k1, k2, k3, k4, k5, k6⟩ := own7b rfl g1
        go_wp2_with fail
        refine (HT.out _).mono ?_
        rintro e' w2 ⟨rfl, rfl⟩
        go_wp2_with fail
        refine (HR.out _).mono ?_
        rintro e' w2 ⟨rfl, g2⟩
        obtain ⟨k0, k1, k2, k3, k4, k5, k6⟩ := own7b rfl (g1.trans g2)
        go_wp2_with fail
        refine (HF.out _ ((((Bl.refl w).alloc _).trans g1).trans g2)).mono ?_
        rintro e' w3 ⟨rfl, g3⟩
        go_wp2_with fail
        go_returns
        exact ⟨by rw [e.out.1, e.out.2.1, e.out.2.2]; rfl, ((((Bl.refl w).alloc _).trans g1).trans g2).trans g3⟩
  · have e := Lib.hid (re_ck (n := n) hc)
    generalize hcc : ckFade F T S Dl Tm k l = cc at *
    have hb : (cc != 0) = true := by simpa using hc
    have HC := Lib.hid HC
    clear h hc hcc hL
    subst hsv
    go_enter Try.func37, Try.ntmps37
    go_wp2_with fail
    refine (HC.out _ ((Bl.refl w).alloc _)).mono ?_
    rintro e' w1 ⟨rfl, g1⟩
    go_wp2_with fail
    go_returns
    exact ⟨by rw [e.out.1, e.out.2.1, e.out.2.2]; rfl, ((Bl.refl w).alloc _).trans g1⟩
end Go.Proofs.Ytdnipbeggcfnbaa
