/- The reference's fractions: Minus, Order, Floor, Round. -/
import Derived.Test.YtdienaigmkaheaaFrT
namespace Go.Proofs.Ytdienaigmkaheaa
open Go.RowKit

set_option maxRecDepth 100000 in
set_option maxHeartbeats 6400000 in
theorem minus_fr (va vb : Value) (p1 q1 p2 q2 : Int) (w : World) (ha : Fr w va p1 q1) (hb : Fr w vb p2 q2) (hp1 : (p1.natAbs : Int) < pw 5) (hp2 : (p2.natAbs : Int) < pw 5) (hq1 : q1 < pw 5) (hq2 : q2 < pw 5)
    (hp : ((p1 * q2 - p2 * q1).natAbs : Int) < pw 5) (hq : q1 * q2 < pw 6) :
    Calls Try.prog 52 #[va, vb] w (PFr (p1 * q2 - p2 * q1) (q1 * q2) w) := by
  have e : p1 * q2 - p2 * q1 = p1 * q2 + -p2 * q1 := by grind
  have TO := Lib.hid (fun w' (g : Bl w w') => opposite_any vb p2 q2 w' (hb.bl g))
  have TP := Lib.hid (fun w' v (g : Bl w w') (h : Fr w' v (-p2) q2) => plus_fr va v p1 q1 (-p2) q2 w' (ha.bl g) h hp1 (by rw [Int.natAbs_neg]; exact hp2) hq1 hq2 (by rw [← e]; exact hp) hq)
  rw [← e] at TP
  obtain ⟨n1, o1, l1, c1, o2, l2, c2, rfl, a1, a2, a3, a4⟩ := ha
  obtain ⟨n2, o3, l3, c3, o4, l4, c4, rfl, b1, b2, b3, b4⟩ := hb
  clear a1 a2 a3 a4 b1 b2 b3 b4 hp1 hp2 hq1 hq2 hp hq e
  have hb2 : Bl ((w.alloc (.cells #[.bool n1, .slice o1 l1 c1, .slice o2 l2 c2] 49)).alloc (.cells #[.bool n2, .slice o3 l3 c3, .slice o4 l4 c4] 49)) (((w.alloc (.cells #[.bool n1, .slice o1 l1 c1, .slice o2 l2 c2] 49)).alloc (.cells #[.bool n2, .slice o3 l3 c3, .slice o4 l4 c4] 49)).alloc (.cells #[.bool false, .slice none 0 0, .slice none 0 0] 49)) := (Bl.refl _).alloc _
  have hw3 : Bl w (((w.alloc (.cells #[.bool n1, .slice o1 l1 c1, .slice o2 l2 c2] 49)).alloc (.cells #[.bool n2, .slice o3 l3 c3, .slice o4 l4 c4] 49)).alloc (.cells #[.bool false, .slice none 0 0, .slice none 0 0] 49)) := (((Bl.refl w).alloc _).alloc _).alloc _
  go_enter Try.func52, Try.ntmps52
  go_wp2_with fail
  go_region_held3 (fun w' => w'.cell? ⟨w.heap.size, 0, none⟩ = some (.bool n1) ∧ w'.cell? ⟨w.heap.size, 1, none⟩ = some (.slice o1 l1 c1) ∧ w'.cell? ⟨w.heap.size, 2, none⟩ = some (.slice o2 l2 c2) ∧ w'.cell? ⟨w.heap.size + 1, 0, none⟩ = some (.bool n2) ∧ w'.cell? ⟨w.heap.size + 1, 1, none⟩ = some (.slice o3 l3 c3) ∧ w'.cell? ⟨w.heap.size + 1, 2, none⟩ = some (.slice o4 l4 c4))
    (exact own22 w 49 (.bool n1) (.slice o1 l1 c1) (.slice o2 l2 c2) (.bool n2) (.slice o3 l3 c3) (.slice o4 l4 c4) (by (first | (refine Bl.trans hb2 ?_; (repeat (first | with_reducible exact Bl.refl _ | with_reducible refine Bl.drew ?_)); done) | (refine Bl.trans hb2 (Bl.trans ?_ g1); (repeat (first | with_reducible exact Bl.refl _ | with_reducible refine Bl.drew ?_)); done) | (refine Bl.trans hb2 (Bl.trans ?_ (Bl.trans g1 g2)); (repeat (first | with_reducible exact Bl.refl _ | with_reducible refine Bl.drew ?_)); done) | (refine Bl.setCell (Bl.setCell (Bl.setCell (Bl.trans hb2 (Bl.trans ((Bl.refl _).drew) (Bl.trans g1 g2))) (by simp) _) (by simp) _) (by simp) _; done))))
    (first
      | (go_at_call 68; ((with_reducible refine (TO.out _ ?_).mono ?_); (focus (refine Bl.trans hw3 ?_; (repeat (first | with_reducible exact Bl.refl _ | with_reducible refine Bl.drew ?_)); done)); rintro e w1 ⟨v1, rfl, h1, g1⟩; have H1 := Lib.hid h1; clear h1))
      | (go_at_call 40; ((with_reducible refine (TP.out _ _ ?_ H1.out).mono ?_); (focus (refine Bl.trans hw3 (Bl.trans ?_ g1); (repeat (first | with_reducible exact Bl.refl _ | with_reducible refine Bl.drew ?_)); done)); rintro e w5 ⟨v5, rfl, h5, g2⟩; obtain ⟨n9, o9, l9, c9, o10, l10, c10, rfl, i1, i2, i3, i4⟩ := h5; have H5 := Lib.hid (And.intro i1 (And.intro i2 (And.intro i3 i4))); clear i1 i2 i3 i4; have hb5 := Bl.trans ((Bl.refl (((w.alloc (.cells #[.bool n1, .slice o1 l1 c1, .slice o2 l2 c2] 49)).alloc (.cells #[.bool n2, .slice o3 l3 c3, .slice o4 l4 c4] 49)).alloc (.cells #[.bool false, .slice none 0 0, .slice none 0 0] 49))).drew) (Bl.trans g1 g2); obtain ⟨k0, k1, k2⟩ := own3 (n := w.heap.size + 1 + 1) (by simp) hb5; obtain ⟨f0, f1, f2⟩ := own3f (n := w.heap.size + 1 + 1) (by simp) hb5)))
  go_wp2_with fail
  refine bodyPost_ret (v := .agg #[.bool n9, .slice o9 l9 c9, .slice o10 l10 c10]) (by simp [results, Try.results52, go_sem, k0, k1, k2]) rfl ?_
  exact fr_done (n := w.heap.size + 1 + 1) (by simp) hb5 (((Bl.refl w).alloc _).alloc _) H5.out.1 H5.out.2.1 H5.out.2.2.1 H5.out.2.2.2

theorem cmp_sub (a b : Int) : cmpV a b = if a - b = 0 then 0 else if a - b < 0 then -1 else 1 := by
  unfold cmpV
  by_cases h1 : a < b
  · rw [if_pos h1, if_neg (by omega), if_pos (by omega)]
  · rw [if_neg h1]
    by_cases h2 : b < a
    · rw [if_pos h2, if_neg (by omega), if_neg (by omega)]
    · rw [if_neg h2, if_pos (by omega)]

set_option maxRecDepth 100000 in
set_option maxHeartbeats 6400000 in
theorem order_fr (va vb : Value) (p1 q1 p2 q2 : Int) (w : World) (ha : Fr w va p1 q1) (hb : Fr w vb p2 q2) (hp1 : (p1.natAbs : Int) < pw 5) (hp2 : (p2.natAbs : Int) < pw 5) (hq1 : q1 < pw 5) (hq2 : q2 < pw 5)
    (hp : ((p1 * q2 - p2 * q1).natAbs : Int) < pw 5) (hq : q1 * q2 < pw 6) :
    Calls Try.prog 53 #[va, vb] w (PCmp (p1 * q2) (p2 * q1) w) := by
  have TM := Lib.hid (fun w' (g : Bl w w') => minus_fr va vb p1 q1 p2 q2 w' (ha.bl g) (hb.bl g) hp1 hp2 hq1 hq2 hp hq)
  have hcmp := Lib.hid (cmp_sub (p1 * q2) (p2 * q1))
  obtain ⟨n1, o1, l1, c1, o2, l2, c2, rfl, a1, a2, a3, a4⟩ := ha
  obtain ⟨n2, o3, l3, c3, o4, l4, c4, rfl, b1, b2, b3, b4⟩ := hb
  clear a1 a2 a3 a4 b1 b2 b3 b4 hp1 hp2 hq1 hq2 hp hq
  generalize p1 * q2 - p2 * q1 = D at *
  go_enter Try.func53, Try.ntmps53
  go_wp2_with fail
  refine (TM.out _ (((Bl.refl w).alloc _).alloc _)).mono ?_
  rintro e w1 ⟨v1, rfl, h1, g1⟩
  have HZ := Lib.hid (fun w' (g : Bl w1 w') => zero_any v1 _ _ w' (h1.bl g))
  obtain ⟨n9, o9, l9, c9, o10, l10, c10, rfl, i1, i2, i3, i4⟩ := h1
  have H4 := Lib.hid i4
  clear i1 i2 i3 i4
  by_cases hz : D = 0
  · have hb : (D == 0) = true := by simpa using hz
    rw [hb] at HZ
    have e : Hid (cmpV (p1 * q2) (p2 * q1) = 0) := by show _ = _; rw [hcmp.out, if_pos hz]
    clear hb hz
    go_wp2_with fail
    refine (HZ.out _ ((Bl.refl w1).alloc _)).mono ?_
    rintro e w2 ⟨rfl, g2⟩
    go_wp2_with fail
    go_returns
    exact ⟨ret_i e.out.symm, ((((Bl.refl w).alloc _).alloc _).trans g1).trans (((Bl.refl w1).alloc _).trans g2)⟩
  · have hb : (D == 0) = false := by simpa using hz
    rw [hb] at HZ
    by_cases hneg : D < 0
    · have e : Hid (cmpV (p1 * q2) (p2 * q1) = -1) := by show _ = _; rw [hcmp.out, if_neg hz, if_pos hneg]
      have hn9 : n9 = true := by rw [H4.out hz]; simpa using hneg
      subst hn9
      clear hb hz hneg
      go_wp2_with fail
      refine (HZ.out _ ((Bl.refl w1).alloc _)).mono ?_
      rintro e w2 ⟨rfl, g2⟩
      obtain ⟨k0, k1, k2⟩ := own3 rfl g2
      go_wp2_with fail
      go_returns
      exact ⟨ret_i e.out.symm, ((((Bl.refl w).alloc _).alloc _).trans g1).trans (((Bl.refl w1).alloc _).trans g2)⟩
    · have e : Hid (cmpV (p1 * q2) (p2 * q1) = 1) := by show _ = _; rw [hcmp.out, if_neg hz, if_neg hneg]
      have hn9 : n9 = false := by rw [H4.out hz]; simpa using hneg
      subst hn9
      clear hb hz hneg
      go_wp2_with fail
      refine (HZ.out _ ((Bl.refl w1).alloc _)).mono ?_
      rintro e w2 ⟨rfl, g2⟩
      obtain ⟨k0, k1, k2⟩ := own3 rfl g2
      go_wp2_with fail
      go_returns
      exact ⟨ret_i e.out.symm, ((((Bl.refl w).alloc _).alloc _).trans g1).trans (((Bl.refl w1).alloc _).trans g2)⟩

theorem pw_le_4 {N : Int} (h : N < pw 5) : N < pw 10000 := Int.lt_of_lt_of_le h (pw_mono (by omega))
/-- The floor of a number below 0. -/
theorem floor_neg {p q : Int} (hp : p < 0) (hq : 0 < q) : p / q = -((p.natAbs : Int) / q + if (p.natAbs : Int) % q = 0 then 0 else 1) := by
  have e : p = -(p.natAbs : Int) := by omega
  generalize (p.natAbs : Int) = n at *
  subst e
  have h := Int.mul_ediv_add_emod n q
  have r0 := Int.emod_nonneg n (show q ≠ 0 by omega)
  have r1 := Int.emod_lt_of_pos n hq
  generalize n % q = r at *
  generalize n / q = d at *
  by_cases hr : r = 0
  · rw [if_pos hr]
    have e2 : -n = q * -d := by rw [← h, hr]; grind
    rw [e2, Int.mul_ediv_cancel_left _ (by omega)]; omega
  · rw [if_neg hr]
    have e2 : -n = (q - r) + q * -(d + 1) := by rw [← h]; grind
    rw [e2, Int.add_mul_ediv_left _ _ (by omega), Int.ediv_eq_zero_of_lt (by omega) (by omega)]; omega

set_option maxRecDepth 100000 in
set_option maxHeartbeats 6400000 in
theorem floor_fr (va : Value) (p q : Int) (w : World) (ha : Fr w va p q) (hp : (p.natAbs : Int) < pw 5) (hs : (p.natAbs : Int) / q ≤ 1000000000000000000) :
    Calls Try.prog 41 #[va] w fun e w' => e = .returned (.int .i64 (p / q)) ∧ Bl w w' := by
  obtain ⟨n1, o1, l1, c1, o2, l2, c2, rfl, a1, a2, a3, a4⟩ := ha
  have HD := Lib.hid (fun w' (g : Bl w w') => divide_any _ _ _ _ w' (a1.bl g) (a2.bl g) (by omega) a3 (pw_le_4 hp))
  have q0 : 0 ≤ (p.natAbs : Int) / q := Int.ediv_nonneg (by omega) (by omega)
  have HN : Hid ((0 ≤ p → (p.natAbs : Int) = p) ∧ (p < 0 → p / q = -((p.natAbs : Int) / q + if (p.natAbs : Int) % q = 0 then 0 else 1))) := ⟨fun h => by omega, fun h => floor_neg h a3⟩
  have H4 := Lib.hid a4
  have HZ : Hid (p = 0 → (p.natAbs : Int) / q = 0 ∧ (p.natAbs : Int) % q = 0) := fun h => by subst h; simp
  clear a1 a2 a3 a4 hp
  obtain ⟨d, hd⟩ : ∃ d, d = (p.natAbs : Int) / q := ⟨_, rfl⟩
  obtain ⟨r, hr⟩ : ∃ r, r = (p.natAbs : Int) % q := ⟨_, rfl⟩
  rw [← hd] at q0 hs
  have Hd := Lib.hid hd
  have Hr := Lib.hid hr
  clear hd hr
  go_enter Try.func41, Try.ntmps41
  go_wp2_with fail
  refine (HD.out _ ((Bl.refl w).alloc _)).mono ?_
  rintro e w1 ⟨v1, r1, rfl, h1, h2, g1⟩
  rw [← Hd.out] at h1
  rw [← Hr.out] at h2
  obtain ⟨o5, l5, c5, rfl⟩ := h2.form
  have hrz := Lib.hid h2.zero
  have HNu := Lib.hid (number_any v1 d w1 h1 (by omega))
  obtain ⟨k0, k1, k2⟩ := own3 rfl g1
  clear h1 h2
  go_wp2_with fail
  refine HNu.out.mono ?_
  rintro e w2 ⟨rfl, rfl⟩
  cases n1 with
  | false =>
    have e : Hid (p / q = d) := by
      show p / q = d
      have h0 : 0 ≤ p := by
        by_cases h0 : p = 0
        · omega
        · have := H4.out h0; simp at this; exact this
      rw [Hd.out, HN.out.1 h0]
    go_wp2_with fail
    go_returns
    exact ⟨ret_i e.out.symm, ((Bl.refl w).alloc _).trans g1⟩
  | true =>
    by_cases hl : 0 < l5
    · have e : Hid (p / q = -(d + 1)) := by
        show p / q = _
        have hr0 : r ≠ 0 := by rw [ne_eq, hrz.out]; omega
        have h0 : p < 0 := by
          by_cases h0 : p = 0
          · exact absurd ((Hr.out).trans (HZ.out h0).2) hr0
          · have := H4.out h0; simp at this; exact this
        rw [HN.out.2 h0, ← Hd.out, ← Hr.out, if_neg hr0]
      go_wp2_with fail
      go_returns
      exact ⟨ret_i e.out.symm, ((Bl.refl w).alloc _).trans g1⟩
    · have e : Hid (p / q = -d) := by
        show p / q = _
        have hr0 : r = 0 := by rw [hrz.out]; omega
        by_cases h0 : p = 0
        · rw [h0, Hd.out, (HZ.out h0).1]; simp
        · have h1 : p < 0 := by have := H4.out h0; simp at this; exact this
          rw [HN.out.2 h1, ← Hd.out, ← Hr.out, if_pos hr0, Int.add_zero]
      go_wp2_with fail
      go_returns
      exact ⟨ret_i e.out.symm, ((Bl.refl w).alloc _).trans g1⟩

/-- Rounded. -/
def rdF (p q : Int) : Int := (p * 2 + 1 * q) / (q * 2)
set_option maxRecDepth 100000 in
set_option maxHeartbeats 6400000 in
theorem round_fr (va : Value) (p q : Int) (w : World) (ha : Fr w va p q) (hp1 : (p.natAbs : Int) < pw 5) (hq1 : q < pw 5) (hp : ((p * 2 + 1 * q).natAbs : Int) < pw 5) (hq : q * 2 < pw 6) (hs : ((p * 2 + 1 * q).natAbs : Int) / (q * 2) ≤ 1000000000000000000) :
    Calls Try.prog 22 #[va] w fun e w' => e = .returned (.int .i64 (rdF p q)) ∧ Bl w w' := by
  have e5 : (1 : Int) < pw 5 ∧ (2 : Int) < pw 5 := by decide
  have TP := Lib.hid (fun w' v (g : Bl w w') (h : Fr w' v 1 2) => plus_fr va v p q 1 2 w' (ha.bl g) h hp1 e5.1 hq1 e5.2 hp hq)
  have TF := Lib.hid (fun w' v (h : Fr w' v (p * 2 + 1 * q) (q * 2)) => floor_fr v _ _ w' h hp hs)
  have TQ := Lib.hid (fun w' => part_any 1 2 w' (by omega) (by omega) (by omega) (by omega))
  obtain ⟨n1, o1, l1, c1, o2, l2, c2, rfl, a1, a2, a3, a4⟩ := ha
  clear a1 a2 a3 a4 hp1 hq1 hp hq hs e5
  have hw1 : Bl w (w.alloc (.cells #[.bool n1, .slice o1 l1 c1, .slice o2 l2 c2] 49)) := (Bl.refl w).alloc _
  go_enter Try.func22, Try.ntmps22
  go_wp2_with fail
  go_region_held3 (fun w' => w'.cell? ⟨w.heap.size, 0, none⟩ = some (.bool n1) ∧ w'.cell? ⟨w.heap.size, 1, none⟩ = some (.slice o1 l1 c1) ∧ w'.cell? ⟨w.heap.size, 2, none⟩ = some (.slice o2 l2 c2))
    (exact own3 (t := 49) rfl (by (first | ((repeat (first | with_reducible exact Bl.refl _ | with_reducible refine Bl.drew ?_)); done) | (refine Bl.trans ?_ g1; (repeat (first | with_reducible exact Bl.refl _ | with_reducible refine Bl.drew ?_)); done) | (refine Bl.trans ?_ (Bl.trans g1 g2); (repeat (first | with_reducible exact Bl.refl _ | with_reducible refine Bl.drew ?_)); done) | (refine Bl.trans ?_ (Bl.trans g1 (Bl.trans g2 g3)); (repeat (first | with_reducible exact Bl.refl _ | with_reducible refine Bl.drew ?_)); done))))
    (first
      | (go_at_call 21; refine (TQ.out _).mono ?_; rintro e w1 ⟨v1, rfl, h1, g1⟩; have H1 := Lib.hid h1; clear h1)
      | (go_at_call 40; ((with_reducible refine (TP.out _ _ ?_ H1.out).mono ?_); (focus (refine Bl.trans hw1 (Bl.trans ?_ g1); (repeat (first | with_reducible exact Bl.refl _ | with_reducible refine Bl.drew ?_)); done)); rintro e w5 ⟨v5, rfl, h5, g2⟩; have H5 := Lib.hid h5; clear h5))
      | (go_at_call 41; refine (TF.out _ _ H5.out).mono ?_; rintro e w6 ⟨rfl, g3⟩))
  go_wp2_with fail
  go_returns
  exact ⟨ret_i (by unfold rdF; rw [Int.one_mul]), hw1.drew.trans (g1.trans (g2.trans g3))⟩

theorem lt5 {N : Int} (h : N ≤ 1000000000000000000000) : N < pw 4 := by
  have e : (1000000000000000000000 : Int) < pw 4 := by decide
  omega
theorem lt6 {N : Int} (h : N ≤ 1000000000000000000000) : N < pw 6 := by
  have e : (1000000000000000000000 : Int) < pw 6 := by decide
  omega
theorem lt55 {N : Int} (h : N ≤ 1000000000000000000000) : N < pw 5 := by
  have e : (1000000000000000000000 : Int) < pw 5 := by decide
  omega

/-- Part, then Round. -/
theorem round_part (va : Value) (a b : Int) (w : World) (h : Fr w va a b) (a0 : 0 ≤ a) (a1 : a ≤ 1000000000000) (b0 : 0 < b) (b1 : b ≤ 1000000000000) :
    Calls Try.prog 22 #[va] w fun e w' => e = .returned (.int .i64 (rdF a b)) ∧ Bl w w' :=
  round_fr va a b w h (lt55 (by omega)) (lt55 (by omega)) (lt55 (by omega)) (lt6 (by omega)) (by
    have : (((a * 2 + 1 * b).natAbs : Int) / (b * 2)) ≤ ((a * 2 + 1 * b).natAbs : Int) := Int.ediv_le_self _ (by omega)
    omega)
end Go.Proofs.Ytdienaigmkaheaa
