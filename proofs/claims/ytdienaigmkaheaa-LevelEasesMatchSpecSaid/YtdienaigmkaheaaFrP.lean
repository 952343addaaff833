/- The reference's fractions: Plus, Minus. -/
import Derived.Test.YtdienaigmkaheaaFr
namespace Go.Proofs.Ytdienaigmkaheaa
open Go.RowKit

theorem pw_le_big {N : Int} {k : Nat} (h : N < pw k) (hk : k ≤ 100000) : N < pw 100000 := Int.lt_of_lt_of_le h (pw_mono hk)

theorem pw_le_big6 {N : Int} (h : N < pw 10) : N < pw 1000000 := Int.lt_of_lt_of_le h (pw_mono (by omega))
theorem sgn_mul {p q : Int} (hq : 0 < q) : ((p * q).natAbs : Int) = (p.natAbs : Int) * q ∧ (p * q < 0 ↔ p < 0) ∧ (p * q = 0 ↔ p = 0) := by
  refine ⟨?_, ?_, ?_⟩
  · rw [Int.natAbs_mul, Int.natCast_mul]; congr 1; omega
  · constructor
    · intro h
      by_cases hp : p < 0
      · exact hp
      · have := Int.mul_nonneg (show 0 ≤ p by omega) (Int.le_of_lt hq); omega
    · intro h; exact Int.mul_neg_of_neg_of_pos h hq
  · constructor
    · intro h
      rcases Int.mul_eq_zero.1 h with h | h
      · exact h
      · omega
    · intro h; rw [h, Int.zero_mul]
theorem sum_same {a b : Int} {n1 n2 : Bool} (ha : a ≠ 0 → n1 = decide (a < 0)) (hb : b ≠ 0 → n2 = decide (b < 0)) (hn : n1 = n2) : ((a + b).natAbs : Int) = a.natAbs + b.natAbs ∧ (a + b ≠ 0 → n1 = decide (a + b < 0)) := by
  subst hn
  by_cases h1 : a = 0
  · subst h1
    simp only [Int.zero_add]
    exact ⟨by omega, hb⟩
  by_cases h2 : b = 0
  · subst h2
    simp only [Int.add_zero]
    exact ⟨by omega, ha⟩
  · have e1 := ha h1
    have e2 := hb h2
    rw [e1] at e2
    have e3 : a < 0 ↔ b < 0 := by simpa using e2
    refine ⟨by omega, fun _ => ?_⟩
    rw [e1, Bool.eq_iff_iff]; simp; omega
theorem sum_diff {a b : Int} {n1 n2 : Bool} (ha : a ≠ 0 → n1 = decide (a < 0)) (hb : b ≠ 0 → n2 = decide (b < 0)) (hn : n1 ≠ n2) :
    ((b.natAbs : Int) ≤ a.natAbs → ((a + b).natAbs : Int) = a.natAbs - b.natAbs ∧ (a + b ≠ 0 → n1 = decide (a + b < 0))) ∧ ((a.natAbs : Int) < b.natAbs → ((a + b).natAbs : Int) = b.natAbs - a.natAbs ∧ (a + b ≠ 0 → n2 = decide (a + b < 0))) := by
  by_cases h1 : a = 0
  · subst h1
    simp only [Int.zero_add]
    exact ⟨fun h => ⟨by omega, fun h' => by omega⟩, fun h => ⟨by omega, hb⟩⟩
  by_cases h2 : b = 0
  · subst h2
    simp only [Int.add_zero]
    exact ⟨fun h => ⟨by omega, ha⟩, fun h => by omega⟩
  · have e1 := ha h1
    have e2 := hb h2
    have e3 : ¬ (a < 0 ↔ b < 0) := by
      intro h
      apply hn
      rw [e1, e2, Bool.eq_iff_iff]; simpa using h
    refine ⟨fun h => ⟨by omega, fun _ => ?_⟩, fun h => ⟨by omega, fun _ => ?_⟩⟩
    · rw [e1, Bool.eq_iff_iff]; simp; omega
    · rw [e2, Bool.eq_iff_iff]; simp; omega

set_option maxRecDepth 100000 in
set_option maxHeartbeats 6400000 in
theorem plus_fr (va vb : Value) (p1 q1 p2 q2 : Int) (w : World) (ha : Fr w va p1 q1) (hb : Fr w vb p2 q2) (hp1 : (p1.natAbs : Int) < pw 5) (hp2 : (p2.natAbs : Int) < pw 5) (hq1 : q1 < pw 5) (hq2 : q2 < pw 5)
    (hp : ((p1 * q2 + p2 * q1).natAbs : Int) < pw 5) (hq : q1 * q2 < pw 6) :
    Calls Try.prog 40 #[va, vb] w (PFr (p1 * q2 + p2 * q1) (q1 * q2) w) := by
  obtain ⟨n1, o1, l1, c1, o2, l2, c2, rfl, a1, a2, a3, a4⟩ := ha
  obtain ⟨n2, o3, l3, c3, o4, l4, c4, rfl, b1, b2, b3, b4⟩ := hb
  have T1 := Lib.hid (fun w' (g : Bl w w') => times_nat _ _ _ _ w' (a1.bl g) (b2.bl g) (pw_le_big hp1 (by omega)) (pw_le_big hq2 (by omega)))
  have T2 := Lib.hid (fun w' (g : Bl w w') => times_nat _ _ _ _ w' (b1.bl g) (a2.bl g) (pw_le_big hp2 (by omega)) (pw_le_big hq1 (by omega)))
  have T3 := Lib.hid (fun w' (g : Bl w w') => times_nat _ _ _ _ w' (a2.bl g) (b2.bl g) (pw_le_big hq1 (by omega)) (pw_le_big hq2 (by omega)))
  have SG : Hid ((p1 * q2 ≠ 0 → n1 = decide (p1 * q2 < 0)) ∧ (p2 * q1 ≠ 0 → n2 = decide (p2 * q1 < 0)) ∧ ((p1 * q2).natAbs : Int) = (p1.natAbs : Int) * q2 ∧ ((p2 * q1).natAbs : Int) = (p2.natAbs : Int) * q1) := by
    obtain ⟨s1, s2, s3⟩ := sgn_mul (p := p1) b3
    obtain ⟨s4, s5, s6⟩ := sgn_mul (p := p2) a3
    refine ⟨fun h => ?_, fun h => ?_, s1, s4⟩
    · rw [a4 (by intro h'; exact h (s3.2 h')), Bool.eq_iff_iff]; simp only [decide_eq_true_iff]; exact s2.symm
    · rw [b4 (by intro h'; exact h (s6.2 h')), Bool.eq_iff_iff]; simp only [decide_eq_true_iff]; exact s5.symm
  have SZ : Hid ((p1.natAbs : Int) * q2 < pw 10 ∧ (p2.natAbs : Int) * q1 < pw 10) := by
    have e : pw 10 = pw 5 * pw 5 := by rw [← pw_add]
    rw [e]
    exact ⟨mul_lt hp1 hq2 (by omega) (by omega), mul_lt hp2 hq1 (by omega) (by omega)⟩
  have HP := Lib.hid (And.intro hp (And.intro hq (Int.mul_pos a3 b3)))
  clear a1 a2 a3 a4 b1 b2 b3 b4 hp1 hp2 hq1 hq2 hp hq
  go_enter Try.func40, Try.ntmps40
  go_wp2_with fail
  go_region_held3 (fun w' => w'.cell? ⟨w.heap.size, 0, none⟩ = some (.bool n1) ∧ w'.cell? ⟨w.heap.size, 1, none⟩ = some (.slice o1 l1 c1) ∧ w'.cell? ⟨w.heap.size, 2, none⟩ = some (.slice o2 l2 c2) ∧ w'.cell? ⟨w.heap.size + 1, 0, none⟩ = some (.bool n2) ∧ w'.cell? ⟨w.heap.size + 1, 1, none⟩ = some (.slice o3 l3 c3) ∧ w'.cell? ⟨w.heap.size + 1, 2, none⟩ = some (.slice o4 l4 c4))
    (exact own33 w 49 (.bool n1) (.slice o1 l1 c1) (.slice o2 l2 c2) (.bool n2) (.slice o3 l3 c3) (.slice o4 l4 c4) (.bool false) (.slice none 0 0) (.slice none 0 0) (by (first | (repeat (first | with_reducible exact Bl.refl _ | with_reducible refine Bl.drew ?_)); done | (refine Bl.trans ?_ g1; (repeat (first | with_reducible exact Bl.refl _ | with_reducible refine Bl.drew ?_)); done) | (refine Bl.trans ?_ (Bl.trans g1 g2); (repeat (first | with_reducible exact Bl.refl _ | with_reducible refine Bl.drew ?_)); done))))
    (first
      | (go_at_call 58; ((with_reducible refine (T1.out _ ?_).mono ?_); (focus (first | (repeat (first | with_reducible exact Bl.refl _ | with_reducible refine Bl.drew ?_ | with_reducible refine Bl.alloc ?_ _)); done | (refine Bl.trans ?_ g1; (repeat (first | with_reducible exact Bl.refl _ | with_reducible refine Bl.drew ?_ | with_reducible refine Bl.alloc ?_ _)); done) | (refine Bl.trans ?_ (Bl.trans g1 g2); (repeat (first | with_reducible exact Bl.refl _ | with_reducible refine Bl.drew ?_ | with_reducible refine Bl.alloc ?_ _)); done))); rintro e w1 ⟨v1, rfl, h1, g1⟩; obtain ⟨o5, l5, c5, rfl⟩ := h1.form; have H1 := Lib.hid h1; clear h1))
      | (go_at_call 58; ((with_reducible refine (T2.out _ ?_).mono ?_); (focus (first | (repeat (first | with_reducible exact Bl.refl _ | with_reducible refine Bl.drew ?_ | with_reducible refine Bl.alloc ?_ _)); done | (refine Bl.trans ?_ g1; (repeat (first | with_reducible exact Bl.refl _ | with_reducible refine Bl.drew ?_ | with_reducible refine Bl.alloc ?_ _)); done) | (refine Bl.trans ?_ (Bl.trans g1 g2); (repeat (first | with_reducible exact Bl.refl _ | with_reducible refine Bl.drew ?_ | with_reducible refine Bl.alloc ?_ _)); done))); rintro e w2 ⟨v2, rfl, h2, g2⟩; obtain ⟨o6, l6, c6, rfl⟩ := h2.form; have H2 := Lib.hid h2; clear h2)))
  have hW3 : Bl (((w.alloc (.cells #[.bool n1, .slice o1 l1 c1, .slice o2 l2 c2] 49)).alloc (.cells #[.bool n2, .slice o3 l3 c3, .slice o4 l4 c4] 49)).alloc (.cells #[.bool false, .slice none 0 0, .slice none 0 0] 49)) w2 := Bl.trans ((Bl.refl _).drew) (Bl.trans g1 g2)
  have hw2 : Bl w w2 := ((((Bl.refl w).alloc _).alloc _).alloc _).trans hW3
  obtain ⟨k1, k2, k3, k4, k5, k6⟩ := own33 w _ _ _ _ _ _ _ _ _ _ hW3
  have H1' := Lib.hid (H1.out.bl g2)
  clear H1 g1 g2
  go_wp2_with fail
  refine (T3.out _ hw2).mono ?_
  rintro e w3 ⟨v3, rfl, h3, g3⟩
  obtain ⟨o7, l7, c7, rfl⟩ := h3.form
  have H3 := Lib.hid h3
  clear h3 k1 k2 k3 k4 k5 k6
  have hW3 := hW3.trans g3
  obtain ⟨k1, k2, k3, k4, k5, k6⟩ := own33 w _ _ _ _ _ _ _ _ _ _ hW3
  have H1 := Lib.hid (H1'.out.bl g3)
  have H2' := Lib.hid (H2.out.bl g3)
  clear H1' H2 T1 T2 T3
  have hb1 := HP.out.2.2
  by_cases hn : n1 = n2
  · have hnb : (n1 == n2) = true := by rw [hn]; cases n2 <;> rfl
    have HN := Lib.hid hn
    clear hn hb1
    have HS : Hid (((p1 * q2 + p2 * q1).natAbs : Int) = (p1.natAbs : Int) * q2 + (p2.natAbs : Int) * q1 ∧ (p1 * q2 + p2 * q1 ≠ 0 → n1 = decide (p1 * q2 + p2 * q1 < 0))) := by
      have h := sum_same (a := p1 * q2) (b := p2 * q1) (n1 := n1) (n2 := n2) SG.out.1 SG.out.2.1 HN.out
      rw [SG.out.2.2.1, SG.out.2.2.2] at h
      exact h
    have HC := Lib.hid (fun w' (g : Bl w3 w') => plus_nat _ _ _ _ w' (H1.out.bl g) (H2'.out.bl g) (pw_le_big6 SZ.out.1) (pw_le_big6 SZ.out.2))
    go_wp2_with fail
    have HR := Lib.hid (fun w' o8 l8 c8 (h : NatAt w' (.slice o8 l8 c8) ((p1.natAbs : Int) * q2 + (p2.natAbs : Int) * q1)) (g : Bl w3 w') => reduced_any _ (p1 * q2 + p2 * q1) (q1 * q2) w' ⟨n1, o8, l8, c8, o7, l7, c7, rfl, by rw [HS.out.1]; exact h, H3.out.bl g, HP.out.2.2, HS.out.2⟩ HP.out.1 HP.out.2.1)
    have hb := hW3
    have hb2 := Bl.trans ((Bl.refl ((w.alloc (.cells #[.bool n1, .slice o1 l1 c1, .slice o2 l2 c2] 49)).alloc (.cells #[.bool n2, .slice o3 l3 c3, .slice o4 l4 c4] 49))).alloc _) hb
    clear hW3 k1 k2 k3 k4 k5 k6
    go_region_held3 (fun w' => w'.cell? ⟨w.heap.size, 0, none⟩ = some (.bool n1))
      (exact (own22 w 49 (.bool n1) (.slice o1 l1 c1) (.slice o2 l2 c2) (.bool n2) (.slice o3 l3 c3) (.slice o4 l4 c4) (by (first | (refine Bl.trans hb2 ?_; (repeat (first | with_reducible exact Bl.refl _ | with_reducible refine Bl.drew ?_)); done) | (refine Bl.trans hb2 (Bl.trans ?_ g4); (repeat (first | with_reducible exact Bl.refl _ | with_reducible refine Bl.drew ?_)); done) | (refine Bl.trans hb2 (Bl.trans ?_ (Bl.trans g4 g5)); (repeat (first | with_reducible exact Bl.refl _ | with_reducible refine Bl.drew ?_)); done) | (refine Bl.setCell (Bl.setCell (Bl.setCell (Bl.trans hb2 (Bl.trans ((Bl.refl _).drew) (Bl.trans g4 g5))) (by simp) _) (by simp) _) (by simp) _; done)))).1)
      (first
        | (go_at_call 59; refine (HC.out _ (by (repeat (first | with_reducible exact Bl.refl _ | with_reducible refine Bl.drew ?_)); done)).mono ?_; rintro e w4 ⟨v4, rfl, h4, g4⟩; obtain ⟨o8, l8, c8, rfl⟩ := h4.form; have H4 := Lib.hid h4; clear h4)
        | (go_at_call 60; refine (HR.out _ _ _ _ H4.out (Bl.trans (by (repeat (first | with_reducible exact Bl.refl _ | with_reducible refine Bl.drew ?_)); done) g4)).mono ?_; rintro e w5 ⟨v5, rfl, h5, g5⟩; obtain ⟨n9, o9, l9, c9, o10, l10, c10, rfl, i1, i2, i3, i4⟩ := h5; have H5 := Lib.hid (And.intro i1 (And.intro i2 (And.intro i3 i4))); clear i1 i2 i3 i4; have hb5 := Bl.trans hb (Bl.trans ((Bl.refl w3).drew) (Bl.trans g4 g5)); obtain ⟨k0, k1, k2⟩ := own3 (n := w.heap.size + 1 + 1) (by simp) hb5; obtain ⟨f0, f1, f2⟩ := own3f (n := w.heap.size + 1 + 1) (by simp) hb5))
    go_wp2_with fail
    refine bodyPost_ret (v := .agg #[.bool n9, .slice o9 l9 c9, .slice o10 l10 c10]) (by simp [results, Try.results40, go_sem, k0, k1, k2]) rfl ?_
    exact fr_done (n := w.heap.size + 1 + 1) (by simp) hb5 (((Bl.refl w).alloc _).alloc _) H5.out.1 H5.out.2.1 H5.out.2.2.1 H5.out.2.2.2
  · have hnb : (n1 == n2) = false := by revert hn; cases n1 <;> cases n2 <;> simp
    have HN := Lib.hid hn
    clear hn hb1
    have HD : Hid (((p2.natAbs : Int) * q1 ≤ (p1.natAbs : Int) * q2 → ((p1 * q2 + p2 * q1).natAbs : Int) = (p1.natAbs : Int) * q2 - (p2.natAbs : Int) * q1 ∧ (p1 * q2 + p2 * q1 ≠ 0 → n1 = decide (p1 * q2 + p2 * q1 < 0))) ∧ ((p1.natAbs : Int) * q2 < (p2.natAbs : Int) * q1 → ((p1 * q2 + p2 * q1).natAbs : Int) = (p2.natAbs : Int) * q1 - (p1.natAbs : Int) * q2 ∧ (p1 * q2 + p2 * q1 ≠ 0 → n2 = decide (p1 * q2 + p2 * q1 < 0)))) := by
      have h := sum_diff (a := p1 * q2) (b := p2 * q1) (n1 := n1) (n2 := n2) SG.out.1 SG.out.2.1 HN.out
      rw [SG.out.2.2.1, SG.out.2.2.2] at h
      exact h
    have HO := order_any _ _ _ _ w3 H1.out H2'.out
    by_cases hle : (p2.natAbs : Int) * q1 ≤ (p1.natAbs : Int) * q2
    · have HS := Lib.hid (HD.out.1 hle)
      have hcv : 0 ≤ cmpV ((p1.natAbs : Int) * q2) ((p2.natAbs : Int) * q1) := by unfold cmpV; rw [if_neg (by omega)]; split <;> omega
      have HC := Lib.hid (fun w' (g : Bl w3 w') => minus_nat _ _ _ _ w' (H1.out.bl g) (H2'.out.bl g) hle (pw_le_big6 SZ.out.1))
      unfold PCmp at HO
      generalize cmpV ((p1.natAbs : Int) * q2) ((p2.natAbs : Int) * q1) = cv at *
      have HO := Lib.hid HO
      clear HD hle
      go_wp2_with fail
      refine HO.out.mono ?_
      rintro e w3' ⟨rfl, g3'⟩
      have hW3 := hW3.trans g3'
      obtain ⟨k1, k2, k3, k4, k5, k6⟩ := own33 w _ _ _ _ _ _ _ _ _ _ hW3
      have HC := Lib.hid (fun w' (g : Bl w3' w') => HC.out w' (g3'.trans g))
      have H3 := Lib.hid (H3.out.bl g3')
      go_wp2_with fail
      have HR := Lib.hid (fun w' o8 l8 c8 (h : NatAt w' (.slice o8 l8 c8) ((p1.natAbs : Int) * q2 - (p2.natAbs : Int) * q1)) (g : Bl w3' w') => reduced_any _ (p1 * q2 + p2 * q1) (q1 * q2) w' ⟨n1, o8, l8, c8, o7, l7, c7, rfl, by rw [HS.out.1]; exact h, H3.out.bl g, HP.out.2.2, HS.out.2⟩ HP.out.1 HP.out.2.1)
      have hb := hW3
      have hb2 := Bl.trans ((Bl.refl ((w.alloc (.cells #[.bool n1, .slice o1 l1 c1, .slice o2 l2 c2] 49)).alloc (.cells #[.bool n2, .slice o3 l3 c3, .slice o4 l4 c4] 49))).alloc _) hb
      clear hW3 k1 k2 k3 k4 k5 k6
      go_region_held3 (fun w' => w'.cell? ⟨w.heap.size, 0, none⟩ = some (.bool n1))
        (exact (own22 w 49 (.bool n1) (.slice o1 l1 c1) (.slice o2 l2 c2) (.bool n2) (.slice o3 l3 c3) (.slice o4 l4 c4) (by (first | (refine Bl.trans hb2 ?_; (repeat (first | with_reducible exact Bl.refl _ | with_reducible refine Bl.drew ?_)); done) | (refine Bl.trans hb2 (Bl.trans ?_ g4); (repeat (first | with_reducible exact Bl.refl _ | with_reducible refine Bl.drew ?_)); done) | (refine Bl.trans hb2 (Bl.trans ?_ (Bl.trans g4 g5)); (repeat (first | with_reducible exact Bl.refl _ | with_reducible refine Bl.drew ?_)); done) | (refine Bl.setCell (Bl.setCell (Bl.setCell (Bl.trans hb2 (Bl.trans ((Bl.refl _).drew) (Bl.trans g4 g5))) (by simp) _) (by simp) _) (by simp) _; done)))).1)
        (first
          | (go_at_call 62; refine (HC.out _ (by (repeat (first | with_reducible exact Bl.refl _ | with_reducible refine Bl.drew ?_)); done)).mono ?_; rintro e w4 ⟨v4, rfl, h4, g4⟩; obtain ⟨o8, l8, c8, rfl⟩ := h4.form; have H4 := Lib.hid h4; clear h4)
          | (go_at_call 60; refine (HR.out _ _ _ _ H4.out (Bl.trans (by (repeat (first | with_reducible exact Bl.refl _ | with_reducible refine Bl.drew ?_)); done) g4)).mono ?_; rintro e w5 ⟨v5, rfl, h5, g5⟩; obtain ⟨n9, o9, l9, c9, o10, l10, c10, rfl, i1, i2, i3, i4⟩ := h5; have H5 := Lib.hid (And.intro i1 (And.intro i2 (And.intro i3 i4))); clear i1 i2 i3 i4; have hb5 := Bl.trans hb (Bl.trans ((Bl.refl w3').drew) (Bl.trans g4 g5)); obtain ⟨k0, k1, k2⟩ := own3 (n := w.heap.size + 1 + 1) (by simp) hb5; obtain ⟨f0, f1, f2⟩ := own3f (n := w.heap.size + 1 + 1) (by simp) hb5))
      go_wp2_with fail
      refine bodyPost_ret (v := .agg #[.bool n9, .slice o9 l9 c9, .slice o10 l10 c10]) (by simp [results, Try.results40, go_sem, k0, k1, k2]) rfl ?_
      exact fr_done (n := w.heap.size + 1 + 1) (by simp) hb5 (((Bl.refl w).alloc _).alloc _) H5.out.1 H5.out.2.1 H5.out.2.2.1 H5.out.2.2.2
    · have HS := Lib.hid (HD.out.2 (by omega))
      have hcv : cmpV ((p1.natAbs : Int) * q2) ((p2.natAbs : Int) * q1) < 0 := by rw [cmpV_lt (by omega)]; omega
      have HC := Lib.hid (fun w' (g : Bl w3 w') => minus_nat _ _ _ _ w' (H2'.out.bl g) (H1.out.bl g) (by omega) (pw_le_big6 SZ.out.2))
      unfold PCmp at HO
      generalize cmpV ((p1.natAbs : Int) * q2) ((p2.natAbs : Int) * q1) = cv at *
      have HO := Lib.hid HO
      clear HD hle
      go_wp2_with fail
      refine HO.out.mono ?_
      rintro e w3' ⟨rfl, g3'⟩
      have hW3 := hW3.trans g3'
      obtain ⟨k1, k2, k3, k4, k5, k6⟩ := own33 w _ _ _ _ _ _ _ _ _ _ hW3
      have HC := Lib.hid (fun w' (g : Bl w3' w') => HC.out w' (g3'.trans g))
      have H3 := Lib.hid (H3.out.bl g3')
      go_wp2_with fail
      have HR := Lib.hid (fun w' o8 l8 c8 (h : NatAt w' (.slice o8 l8 c8) ((p2.natAbs : Int) * q1 - (p1.natAbs : Int) * q2)) (g : Bl w3' w') => reduced_any _ (p1 * q2 + p2 * q1) (q1 * q2) w' ⟨n2, o8, l8, c8, o7, l7, c7, rfl, by rw [HS.out.1]; exact h, H3.out.bl g, HP.out.2.2, HS.out.2⟩ HP.out.1 HP.out.2.1)
      have hb := hW3
      have hb2 := Bl.trans ((Bl.refl ((w.alloc (.cells #[.bool n1, .slice o1 l1 c1, .slice o2 l2 c2] 49)).alloc (.cells #[.bool n2, .slice o3 l3 c3, .slice o4 l4 c4] 49))).alloc _) hb
      clear hW3 k1 k2 k3 k4 k5 k6
      go_region_held3 (fun w' => w'.cell? ⟨w.heap.size + 1, 0, none⟩ = some (.bool n2))
        (exact (own22 w 49 (.bool n1) (.slice o1 l1 c1) (.slice o2 l2 c2) (.bool n2) (.slice o3 l3 c3) (.slice o4 l4 c4) (by (first | (refine Bl.trans hb2 ?_; (repeat (first | with_reducible exact Bl.refl _ | with_reducible refine Bl.drew ?_)); done) | (refine Bl.trans hb2 (Bl.trans ?_ g4); (repeat (first | with_reducible exact Bl.refl _ | with_reducible refine Bl.drew ?_)); done) | (refine Bl.trans hb2 (Bl.trans ?_ (Bl.trans g4 g5)); (repeat (first | with_reducible exact Bl.refl _ | with_reducible refine Bl.drew ?_)); done) | (refine Bl.setCell (Bl.setCell (Bl.setCell (Bl.trans hb2 (Bl.trans ((Bl.refl _).drew) (Bl.trans g4 g5))) (by simp) _) (by simp) _) (by simp) _; done)))).2.2.2.1)
        (first
          | (go_at_call 62; refine (HC.out _ (by (repeat (first | with_reducible exact Bl.refl _ | with_reducible refine Bl.drew ?_)); done)).mono ?_; rintro e w4 ⟨v4, rfl, h4, g4⟩; obtain ⟨o8, l8, c8, rfl⟩ := h4.form; have H4 := Lib.hid h4; clear h4)
          | (go_at_call 60; refine (HR.out _ _ _ _ H4.out (Bl.trans (by (repeat (first | with_reducible exact Bl.refl _ | with_reducible refine Bl.drew ?_)); done) g4)).mono ?_; rintro e w5 ⟨v5, rfl, h5, g5⟩; obtain ⟨n9, o9, l9, c9, o10, l10, c10, rfl, i1, i2, i3, i4⟩ := h5; have H5 := Lib.hid (And.intro i1 (And.intro i2 (And.intro i3 i4))); clear i1 i2 i3 i4; have hb5 := Bl.trans hb (Bl.trans ((Bl.refl w3').drew) (Bl.trans g4 g5)); obtain ⟨k0, k1, k2⟩ := own3 (n := w.heap.size + 1 + 1) (by simp) hb5; obtain ⟨f0, f1, f2⟩ := own3f (n := w.heap.size + 1 + 1) (by simp) hb5))
      go_wp2_with fail
      refine bodyPost_ret (v := .agg #[.bool n9, .slice o9 l9 c9, .slice o10 l10 c10]) (by simp [results, Try.results40, go_sem, k0, k1, k2]) rfl ?_
      exact fr_done (n := w.heap.size + 1 + 1) (by simp) hb5 (((Bl.refl w).alloc _).alloc _) H5.out.1 H5.out.2.1 H5.out.2.2.1 H5.out.2.2.2
end Go.Proofs.Ytdienaigmkaheaa
