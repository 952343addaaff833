/- The reference's fractions: Times, Over, Minus, Order, Floor, Round. -/
import Derived.Test.YtdienaigmkaheaaFrP
namespace Go.Proofs.Ytdienaigmkaheaa
open Go.RowKit

theorem pw_le_big5 {N : Int} (h : N < pw 5) : N < pw 100000 := Int.lt_of_lt_of_le h (pw_mono (by omega))
theorem flag_mul {p1 p2 : Int} {n1 n2 : Bool} (ha : p1 ≠ 0 → n1 = decide (p1 < 0)) (hb : p2 ≠ 0 → n2 = decide (p2 < 0)) (h : p1 * p2 ≠ 0) : (n1 != n2) = decide (p1 * p2 < 0) := by
  have h1 : p1 ≠ 0 := by intro e; apply h; rw [e, Int.zero_mul]
  have h2 : p2 ≠ 0 := by intro e; apply h; rw [e, Int.mul_zero]
  rw [ha h1, hb h2]
  by_cases e1 : p1 < 0
  · by_cases e2 : p2 < 0
    · have := Int.mul_pos_of_neg_of_neg e1 e2
      simp [e1, e2]; omega
    · have := Int.mul_neg_of_neg_of_pos e1 (show 0 < p2 by omega)
      simp [e1, e2, this]
  · by_cases e2 : p2 < 0
    · have := Int.mul_neg_of_pos_of_neg (show 0 < p1 by omega) e2
      simp [e1, e2, this]
    · have := Int.mul_pos (show 0 < p1 by omega) (show 0 < p2 by omega)
      simp [e1, e2]; omega
theorem flag_over {p1 p2 q2 : Int} {n1 n2 : Bool} (ha : p1 ≠ 0 → n1 = decide (p1 < 0)) (hb : p2 ≠ 0 → n2 = decide (p2 < 0)) (h0 : 0 < p2) (hq : 0 < q2) (h : p1 * q2 ≠ 0) : (n1 != n2) = decide (p1 * q2 < 0) := by
  have h1 : p1 ≠ 0 := by intro e; apply h; rw [e, Int.zero_mul]
  have hn : n2 = false := by rw [hb (by omega)]; simp; omega
  obtain ⟨_, s2, _⟩ := sgn_mul (p := p1) hq
  rw [ha h1, hn, Bool.eq_iff_iff]
  simp [s2]

set_option maxRecDepth 100000 in
set_option maxHeartbeats 6400000 in
theorem times_fr (va vb : Value) (p1 q1 p2 q2 : Int) (w : World) (ha : Fr w va p1 q1) (hb : Fr w vb p2 q2) (hp1 : (p1.natAbs : Int) < pw 5) (hp2 : (p2.natAbs : Int) < pw 5) (hq1 : q1 < pw 5) (hq2 : q2 < pw 5)
    (hp : ((p1 * p2).natAbs : Int) < pw 5) (hq : q1 * q2 < pw 6) :
    Calls Try.prog 44 #[va, vb] w (PFr (p1 * p2) (q1 * q2) w) := by
  obtain ⟨n1, o1, l1, c1, o2, l2, c2, rfl, a1, a2, a3, a4⟩ := ha
  obtain ⟨n2, o3, l3, c3, o4, l4, c4, rfl, b1, b2, b3, b4⟩ := hb
  have T1 := Lib.hid (fun w' (g : Bl w w') => times_nat _ _ _ _ w' (a1.bl g) (b1.bl g) (pw_le_big5 hp1) (pw_le_big5 hp2))
  have T2 := Lib.hid (fun w' (g : Bl w w') => times_nat _ _ _ _ w' (a2.bl g) (b2.bl g) (pw_le_big5 hq1) (pw_le_big5 hq2))
  have HR := Lib.hid (fun w' o5 l5 c5 o6 l6 c6 (h1 : NatAt w' (.slice o5 l5 c5) (((p1 * p2).natAbs : Nat) : Int)) (h2 : NatAt w' (.slice o6 l6 c6) (q1 * q2)) => reduced_any _ (p1 * p2) (q1 * q2) w' ⟨n1 != n2, o5, l5, c5, o6, l6, c6, rfl, h1, h2, Int.mul_pos a3 b3, flag_mul a4 b4⟩ hp hq)
  have HAB : Hid (((p1 * p2).natAbs : Int) = (p1.natAbs : Int) * (p2.natAbs : Int) ∧ True) := ⟨by rw [Int.natAbs_mul, Int.natCast_mul], trivial⟩
  clear a1 a2 a3 a4 b1 b2 b3 b4 hp1 hp2 hq1 hq2 hp hq
  have hb2 : Bl ((w.alloc (.cells #[.bool n1, .slice o1 l1 c1, .slice o2 l2 c2] 49)).alloc (.cells #[.bool n2, .slice o3 l3 c3, .slice o4 l4 c4] 49)) (((w.alloc (.cells #[.bool n1, .slice o1 l1 c1, .slice o2 l2 c2] 49)).alloc (.cells #[.bool n2, .slice o3 l3 c3, .slice o4 l4 c4] 49)).alloc (.cells #[.bool false, .slice none 0 0, .slice none 0 0] 49)) := (Bl.refl _).alloc _
  have hw3 : Bl w (((w.alloc (.cells #[.bool n1, .slice o1 l1 c1, .slice o2 l2 c2] 49)).alloc (.cells #[.bool n2, .slice o3 l3 c3, .slice o4 l4 c4] 49)).alloc (.cells #[.bool false, .slice none 0 0, .slice none 0 0] 49)) := (((Bl.refl w).alloc _).alloc _).alloc _
  go_enter Try.func44, Try.ntmps44
  go_wp2_with fail
  go_region_held3 (fun w' => w'.cell? ⟨w.heap.size, 0, none⟩ = some (.bool n1) ∧ w'.cell? ⟨w.heap.size, 1, none⟩ = some (.slice o1 l1 c1) ∧ w'.cell? ⟨w.heap.size, 2, none⟩ = some (.slice o2 l2 c2) ∧ w'.cell? ⟨w.heap.size + 1, 0, none⟩ = some (.bool n2) ∧ w'.cell? ⟨w.heap.size + 1, 1, none⟩ = some (.slice o3 l3 c3) ∧ w'.cell? ⟨w.heap.size + 1, 2, none⟩ = some (.slice o4 l4 c4))
    (exact own22 w 49 (.bool n1) (.slice o1 l1 c1) (.slice o2 l2 c2) (.bool n2) (.slice o3 l3 c3) (.slice o4 l4 c4) (by (first | (refine Bl.trans hb2 ?_; (repeat (first | with_reducible exact Bl.refl _ | with_reducible refine Bl.drew ?_)); done) | (refine Bl.trans hb2 (Bl.trans ?_ g1); (repeat (first | with_reducible exact Bl.refl _ | with_reducible refine Bl.drew ?_)); done) | (refine Bl.trans hb2 (Bl.trans ?_ (Bl.trans g1 g2)); (repeat (first | with_reducible exact Bl.refl _ | with_reducible refine Bl.drew ?_)); done) | (refine Bl.trans hb2 (Bl.trans ?_ (Bl.trans g1 (Bl.trans g2 g3))); (repeat (first | with_reducible exact Bl.refl _ | with_reducible refine Bl.drew ?_)); done) | (refine Bl.setCell (Bl.setCell (Bl.setCell (Bl.trans hb2 (Bl.trans ((Bl.refl _).drew) (Bl.trans g1 (Bl.trans g2 g3)))) (by simp) _) (by simp) _) (by simp) _; done))))
    (first
      | (go_at_call 58; ((with_reducible refine (T1.out _ ?_).mono ?_); (focus (refine Bl.trans hw3 ?_; (repeat (first | with_reducible exact Bl.refl _ | with_reducible refine Bl.drew ?_)); done)); rintro e w1 ⟨v1, rfl, h1, g1⟩; obtain ⟨o5, l5, c5, rfl⟩ := h1.form; have H1 := Lib.hid h1; clear h1))
      | (go_at_call 58; ((with_reducible refine (T2.out _ ?_).mono ?_); (focus (refine Bl.trans hw3 (Bl.trans ?_ g1); (repeat (first | with_reducible exact Bl.refl _ | with_reducible refine Bl.drew ?_)); done)); rintro e w2 ⟨v2, rfl, h2, g2⟩; obtain ⟨o6, l6, c6, rfl⟩ := h2.form; have H2 := Lib.hid h2; clear h2))
      | (go_at_call 60; refine (HR.out _ _ _ _ _ _ _ (by rw [HAB.out.1]; exact H1.out.bl g2) (by exact H2.out)).mono ?_; rintro e w5 ⟨v5, rfl, h5, g3⟩; obtain ⟨n9, o9, l9, c9, o10, l10, c10, rfl, i1, i2, i3, i4⟩ := h5; have H5 := Lib.hid (And.intro i1 (And.intro i2 (And.intro i3 i4))); clear i1 i2 i3 i4; have hb5 := Bl.trans ((Bl.refl (((w.alloc (.cells #[.bool n1, .slice o1 l1 c1, .slice o2 l2 c2] 49)).alloc (.cells #[.bool n2, .slice o3 l3 c3, .slice o4 l4 c4] 49)).alloc (.cells #[.bool false, .slice none 0 0, .slice none 0 0] 49))).drew) (Bl.trans g1 (Bl.trans g2 g3)); obtain ⟨k0, k1, k2⟩ := own3 (n := w.heap.size + 1 + 1) (by simp) hb5; obtain ⟨f0, f1, f2⟩ := own3f (n := w.heap.size + 1 + 1) (by simp) hb5))
  go_wp2_with fail
  refine bodyPost_ret (v := .agg #[.bool n9, .slice o9 l9 c9, .slice o10 l10 c10]) (by simp [results, Try.results44, go_sem, k0, k1, k2]) rfl ?_
  exact fr_done (n := w.heap.size + 1 + 1) (by simp) hb5 (((Bl.refl w).alloc _).alloc _) H5.out.1 H5.out.2.1 H5.out.2.2.1 H5.out.2.2.2

set_option maxRecDepth 100000 in
set_option maxHeartbeats 6400000 in
theorem over_fr (va vb : Value) (p1 q1 p2 q2 : Int) (w : World) (ha : Fr w va p1 q1) (hb : Fr w vb p2 q2) (hp1 : (p1.natAbs : Int) < pw 5) (hp2 : (p2.natAbs : Int) < pw 5) (hq1 : q1 < pw 5) (hq2 : q2 < pw 5) (hpos : 0 < p2)
    (hp : ((p1 * q2).natAbs : Int) < pw 5) (hq : q1 * p2 < pw 6) :
    Calls Try.prog 70 #[va, vb] w (PFr (p1 * q2) (q1 * p2) w) := by
  obtain ⟨n1, o1, l1, c1, o2, l2, c2, rfl, a1, a2, a3, a4⟩ := ha
  obtain ⟨n2, o3, l3, c3, o4, l4, c4, rfl, b1, b2, b3, b4⟩ := hb
  have T1 := Lib.hid (fun w' (g : Bl w w') => times_nat _ _ _ _ w' (a1.bl g) (b2.bl g) (pw_le_big5 hp1) (pw_le_big5 hq2))
  have T2 := Lib.hid (fun w' (g : Bl w w') => times_nat _ _ _ _ w' (a2.bl g) (b1.bl g) (pw_le_big5 hq1) (pw_le_big5 hp2))
  have HR := Lib.hid (fun w' o5 l5 c5 o6 l6 c6 (h1 : NatAt w' (.slice o5 l5 c5) (((p1 * q2).natAbs : Nat) : Int)) (h2 : NatAt w' (.slice o6 l6 c6) (q1 * p2)) => reduced_any _ (p1 * q2) (q1 * p2) w' ⟨n1 != n2, o5, l5, c5, o6, l6, c6, rfl, h1, h2, Int.mul_pos a3 hpos, flag_over a4 b4 hpos b3⟩ hp hq)
  have HAB : Hid (((p1 * q2).natAbs : Int) = (p1.natAbs : Int) * q2 ∧ (p2.natAbs : Int) = p2) := ⟨(sgn_mul b3).1, by omega⟩
  clear a1 a2 a3 a4 b1 b2 b3 b4 hp1 hp2 hq1 hq2 hp hq
  have hb2 : Bl ((w.alloc (.cells #[.bool n1, .slice o1 l1 c1, .slice o2 l2 c2] 49)).alloc (.cells #[.bool n2, .slice o3 l3 c3, .slice o4 l4 c4] 49)) (((w.alloc (.cells #[.bool n1, .slice o1 l1 c1, .slice o2 l2 c2] 49)).alloc (.cells #[.bool n2, .slice o3 l3 c3, .slice o4 l4 c4] 49)).alloc (.cells #[.bool false, .slice none 0 0, .slice none 0 0] 49)) := (Bl.refl _).alloc _
  have hw3 : Bl w (((w.alloc (.cells #[.bool n1, .slice o1 l1 c1, .slice o2 l2 c2] 49)).alloc (.cells #[.bool n2, .slice o3 l3 c3, .slice o4 l4 c4] 49)).alloc (.cells #[.bool false, .slice none 0 0, .slice none 0 0] 49)) := (((Bl.refl w).alloc _).alloc _).alloc _
  go_enter Try.func70, Try.ntmps70
  go_wp2_with fail
  go_region_held3 (fun w' => w'.cell? ⟨w.heap.size, 0, none⟩ = some (.bool n1) ∧ w'.cell? ⟨w.heap.size, 1, none⟩ = some (.slice o1 l1 c1) ∧ w'.cell? ⟨w.heap.size, 2, none⟩ = some (.slice o2 l2 c2) ∧ w'.cell? ⟨w.heap.size + 1, 0, none⟩ = some (.bool n2) ∧ w'.cell? ⟨w.heap.size + 1, 1, none⟩ = some (.slice o3 l3 c3) ∧ w'.cell? ⟨w.heap.size + 1, 2, none⟩ = some (.slice o4 l4 c4))
    (exact own22 w 49 (.bool n1) (.slice o1 l1 c1) (.slice o2 l2 c2) (.bool n2) (.slice o3 l3 c3) (.slice o4 l4 c4) (by (first | (refine Bl.trans hb2 ?_; (repeat (first | with_reducible exact Bl.refl _ | with_reducible refine Bl.drew ?_)); done) | (refine Bl.trans hb2 (Bl.trans ?_ g1); (repeat (first | with_reducible exact Bl.refl _ | with_reducible refine Bl.drew ?_)); done) | (refine Bl.trans hb2 (Bl.trans ?_ (Bl.trans g1 g2)); (repeat (first | with_reducible exact Bl.refl _ | with_reducible refine Bl.drew ?_)); done) | (refine Bl.trans hb2 (Bl.trans ?_ (Bl.trans g1 (Bl.trans g2 g3))); (repeat (first | with_reducible exact Bl.refl _ | with_reducible refine Bl.drew ?_)); done) | (refine Bl.setCell (Bl.setCell (Bl.setCell (Bl.trans hb2 (Bl.trans ((Bl.refl _).drew) (Bl.trans g1 (Bl.trans g2 g3)))) (by simp) _) (by simp) _) (by simp) _; done))))
    (first
      | (go_at_call 58; ((with_reducible refine (T1.out _ ?_).mono ?_); (focus (refine Bl.trans hw3 ?_; (repeat (first | with_reducible exact Bl.refl _ | with_reducible refine Bl.drew ?_)); done)); rintro e w1 ⟨v1, rfl, h1, g1⟩; obtain ⟨o5, l5, c5, rfl⟩ := h1.form; have H1 := Lib.hid h1; clear h1))
      | (go_at_call 58; ((with_reducible refine (T2.out _ ?_).mono ?_); (focus (refine Bl.trans hw3 (Bl.trans ?_ g1); (repeat (first | with_reducible exact Bl.refl _ | with_reducible refine Bl.drew ?_)); done)); rintro e w2 ⟨v2, rfl, h2, g2⟩; obtain ⟨o6, l6, c6, rfl⟩ := h2.form; have H2 := Lib.hid h2; clear h2))
      | (go_at_call 60; refine (HR.out _ _ _ _ _ _ _ (by rw [HAB.out.1]; exact H1.out.bl g2) (by have := H2.out; rw [HAB.out.2] at this; exact this)).mono ?_; rintro e w5 ⟨v5, rfl, h5, g3⟩; obtain ⟨n9, o9, l9, c9, o10, l10, c10, rfl, i1, i2, i3, i4⟩ := h5; have H5 := Lib.hid (And.intro i1 (And.intro i2 (And.intro i3 i4))); clear i1 i2 i3 i4; have hb5 := Bl.trans ((Bl.refl (((w.alloc (.cells #[.bool n1, .slice o1 l1 c1, .slice o2 l2 c2] 49)).alloc (.cells #[.bool n2, .slice o3 l3 c3, .slice o4 l4 c4] 49)).alloc (.cells #[.bool false, .slice none 0 0, .slice none 0 0] 49))).drew) (Bl.trans g1 (Bl.trans g2 g3)); obtain ⟨k0, k1, k2⟩ := own3 (n := w.heap.size + 1 + 1) (by simp) hb5; obtain ⟨f0, f1, f2⟩ := own3f (n := w.heap.size + 1 + 1) (by simp) hb5))
  go_wp2_with fail
  refine bodyPost_ret (v := .agg #[.bool n9, .slice o9 l9 c9, .slice o10 l10 c10]) (by simp [results, Try.results70, go_sem, k0, k1, k2]) rfl ?_
  exact fr_done (n := w.heap.size + 1 + 1) (by simp) hb5 (((Bl.refl w).alloc _).alloc _) H5.out.1 H5.out.2.1 H5.out.2.2.1 H5.out.2.2.2
end Go.Proofs.Ytdienaigmkaheaa
