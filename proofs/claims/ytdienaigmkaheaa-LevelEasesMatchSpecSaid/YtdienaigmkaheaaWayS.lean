/- The reference's Way: the fast, soft and stepped curves. -/
import Derived.Test.YtdienaigmkaheaaWayR
namespace Go.Proofs.Ytdienaigmkaheaa
open Go.RowKit

theorem bd3 {p q : Int} (p0 : 0 ≤ p) (p1 : p ≤ q) (q0 : 1 ≤ q) (q1 : q ≤ 36000000) : 0 ≤ p * p ∧ p * p ≤ q * q ∧ 0 ≤ p * q ∧ p * q ≤ q * q ∧ 0 ≤ (q - p) * (q - p) ∧ (q - p) * (q - p) ≤ q * q ∧ 1 ≤ q * q ∧ q * q ≤ 1296000000000000 :=
  ⟨Int.mul_nonneg p0 p0, sq_le p0 p1, Int.mul_nonneg p0 (by omega), Int.mul_le_mul_of_nonneg_right p1 (by omega), Int.mul_nonneg (by omega) (by omega), sq_le (by omega) (by omega), (q_bd q0 q1).1, (q_bd q0 q1).2.1⟩
/-- Two locals of three cells. -/
theorem own_two {W1 W2 W' : World} {a b c x y z : Value} {t : TypeId} (g1 : Bl (W1.alloc (.cells #[a, b, c] t)) W') (g2 : Bl (W2.alloc (.cells #[x, y, z] t)) W') :
    W'.cell? ⟨W1.heap.size, 0, none⟩ = some a ∧ W'.cell? ⟨W1.heap.size, 1, none⟩ = some b ∧ W'.cell? ⟨W1.heap.size, 2, none⟩ = some c ∧ W'.cell? ⟨W2.heap.size, 0, none⟩ = some x ∧ W'.cell? ⟨W2.heap.size, 1, none⟩ = some y ∧ W'.cell? ⟨W2.heap.size, 2, none⟩ = some z := by
  obtain ⟨e1, e2, e3⟩ := own3 rfl g1
  obtain ⟨e4, e5, e6⟩ := own3 rfl g2
  exact ⟨e1, e2, e3, e4, e5, e6⟩
theorem set3_far {W' : World} {m n j : Nat} (h : m < n) (u0 u1 u2 : Value) : (((W'.setCell ⟨m, 0, none⟩ u0).setCell ⟨m, 1, none⟩ u1).setCell ⟨m, 2, none⟩ u2).cell? ⟨n, j, none⟩ = W'.cell? ⟨n, j, none⟩ := by
  rw [World.cell?_of_block (Below.heap_setCell _ _ _ _ (by intro e; simp at e; omega)), World.cell?_of_block (Below.heap_setCell _ _ _ _ (by intro e; simp at e; omega)), World.cell?_of_block (Below.heap_setCell _ _ _ _ (by intro e; simp at e; omega))]
/-- Writing the result leaves two locals behind it as they were. -/
theorem keep_set3 {W1 W2 W' : World} {m : Nat} {a b c x y z : Value} {t : TypeId} (h1 : m < W1.heap.size) (h2 : m < W2.heap.size) (g1 : Bl (W1.alloc (.cells #[a, b, c] t)) W') (g2 : Bl (W2.alloc (.cells #[x, y, z] t)) W') (u0 u1 u2 : Value) :
    (((W'.setCell ⟨m, 0, none⟩ u0).setCell ⟨m, 1, none⟩ u1).setCell ⟨m, 2, none⟩ u2).cell? ⟨W1.heap.size, 0, none⟩ = some a ∧ (((W'.setCell ⟨m, 0, none⟩ u0).setCell ⟨m, 1, none⟩ u1).setCell ⟨m, 2, none⟩ u2).cell? ⟨W1.heap.size, 1, none⟩ = some b ∧ (((W'.setCell ⟨m, 0, none⟩ u0).setCell ⟨m, 1, none⟩ u1).setCell ⟨m, 2, none⟩ u2).cell? ⟨W1.heap.size, 2, none⟩ = some c ∧
    (((W'.setCell ⟨m, 0, none⟩ u0).setCell ⟨m, 1, none⟩ u1).setCell ⟨m, 2, none⟩ u2).cell? ⟨W2.heap.size, 0, none⟩ = some x ∧ (((W'.setCell ⟨m, 0, none⟩ u0).setCell ⟨m, 1, none⟩ u1).setCell ⟨m, 2, none⟩ u2).cell? ⟨W2.heap.size, 1, none⟩ = some y ∧ (((W'.setCell ⟨m, 0, none⟩ u0).setCell ⟨m, 1, none⟩ u1).setCell ⟨m, 2, none⟩ u2).cell? ⟨W2.heap.size, 2, none⟩ = some z := by
  rw [set3_far h1, set3_far h1, set3_far h1, set3_far h2, set3_far h2, set3_far h2]
  exact own_two g1 g2
theorem fr_eq {w : World} {v : Value} {p q p' q' : Int} (h : Fr w v p q) (h1 : p = p') (h2 : q = q') : Fr w v p' q' := by subst h1 h2; exact h

set_option maxRecDepth 100000 in
set_option maxHeartbeats 6400000 in
theorem way3 (sv v : Value) (o : Option Addr) (n cap : Nat) (hsv : sv = .slice o n cap) (p q : Int) (w : World) (hv : Fr w v p q) (p0 : 0 ≤ p) (p1 : p ≤ q) (q0 : 1 ≤ q) (q1 : q ≤ 36000000) :
    Calls Try.prog 31 #[.agg #[.int .i64 3, sv], v] w (PGood (wN 3 [] p q) (wD 3 [] p q) w) := by
  subst hsv
  obtain ⟨b1, b2, b3, b4, b5, b6, b7, b8⟩ := bd3 p0 p1 q0 q1
  have TM := Lib.hid (fun w' v1 (g : Bl w w') (h : Fr w' v1 1 1) => minus_fr v1 v 1 1 p q w' h (hv.bl g) (lt4 (by omega)).2.1 (lt4 (by omega)).2.1 (lt4 (by omega)).2.1 (lt4 (by omega)).2.1 (lt4 (by omega)).2.1 (lt4 (by omega)).2.2)
  have TT := Lib.hid (fun w' v1 (h : Fr w' v1 (q - p) q) => times_fr v1 v1 (q - p) q (q - p) q w' h h (lt4 (by omega)).2.1 (lt4 (by omega)).2.1 (lt4 (by omega)).2.1 (lt4 (by omega)).2.1 (lt4 (by omega)).2.1 (lt4 (by omega)).2.2)
  have TM2 := Lib.hid (fun w' v1 v2 (h : Fr w' v1 1 1) (h2 : Fr w' v2 ((q - p) * (q - p)) (q * q)) => minus_fr v1 v2 1 1 ((q - p) * (q - p)) (q * q) w' h h2 (lt4 (by omega)).2.1 (lt4 (by omega)).2.1 (lt4 (by omega)).2.1 (lt4 (by omega)).2.1 (lt4 (by omega)).2.1 (lt4 (by omega)).2.2)
  have hG : Hid (∀ w' v', Fr w' v' (1 * (q * q) - (q - p) * (q - p) * 1) (1 * (q * q)) → GoodFr w' v' (wN 3 [] p q) (wD 3 [] p q)) := fun w' v' h => ⟨q * q - (q - p) * (q - p), q * q, fr_eq h (by omega) (by omega), by omega, by omega, (lt4 (by omega)).1, rfl⟩
  clear b1 b2 b3 b4 b5 b6 b7 b8
  obtain ⟨n1, o1, l1, c1, o2, l2, c2, rfl⟩ := hv.form
  clear hv
  go_enter Try.func31, Try.ntmps31
  go_wp2_with fail
  refine (whole_any 1 _ (by omega) (by omega)).mono ?_
  rintro e w1 ⟨v1, rfl, h1, g1⟩
  obtain ⟨n3, o3, l3, c3, o4, l4, c4, rfl⟩ := h1.form
  have HONE := Lib.hid h1
  clear h1
  have hb := Bl.trans ((Bl.refl _).alloc _) g1
  have hz : w.heap.size + 1 + 1 < w1.heap.size := by have := g1.size; simp at this; omega
  have hz1 : w.heap.size + 1 < w1.heap.size := by omega
  have hz0 : w.heap.size < w1.heap.size := by omega
  obtain ⟨⟨k0, k1⟩, k2, k3, k4⟩ := own25 w _ _ _ _ _ _ _ hb
  go_wp2_with fail
  refine (TM.out _ _ (((((Bl.refl w).alloc _).alloc _).alloc _).trans (g1.alloc _)) (HONE.out.bl ((Bl.refl w1).alloc _))).mono ?_
  rintro e w2 ⟨v2, rfl, h2, g2⟩
  obtain ⟨n5, o5, l5, c5, o6, l6, c6, rfl⟩ := h2.form
  have H2 := Lib.hid (fr_eq h2 (show 1 * q - p * 1 = q - p by omega) (show 1 * q = q by omega))
  clear h2
  have g3 := (g1.alloc (.cells #[.bool n3, .slice o3 l3 c3, .slice o4 l4 c4] 49)).trans g2
  have hy : w.heap.size + 1 + 1 < w2.heap.size := by have := g2.size; simp at this; omega
  have hx : w1.heap.size < w2.heap.size := by have := g2.size; simp at this; omega
  obtain ⟨j0, j1, j2⟩ := own3 (n := w1.heap.size) rfl g2
  clear k0 k1 k2 k3 k4
  go_wp2_with fail
  have hb2 : Bl (w1.alloc (.cells #[.bool n3, .slice o3 l3 c3, .slice o4 l4 c4] 49)) (w2.alloc (.cells #[.bool n5, .slice o5 l5 c5, .slice o6 l6 c6] 49)) := g2.alloc _
  have hg3 := g3.alloc (.cells #[.bool n5, .slice o5 l5 c5, .slice o6 l6 c6] 49)
  go_region_held3 (fun w' => w'.cell? ⟨w1.heap.size, 0, none⟩ = some (.bool n3) ∧ w'.cell? ⟨w1.heap.size, 1, none⟩ = some (.slice o3 l3 c3) ∧ w'.cell? ⟨w1.heap.size, 2, none⟩ = some (.slice o4 l4 c4) ∧ w'.cell? ⟨w2.heap.size, 0, none⟩ = some (.bool n5) ∧ w'.cell? ⟨w2.heap.size, 1, none⟩ = some (.slice o5 l5 c5) ∧ w'.cell? ⟨w2.heap.size, 2, none⟩ = some (.slice o6 l6 c6))
    (first
      | (refine own_two (t := 49) (Bl.trans hb2 ?_) ?_ <;> (repeat (first | with_reducible exact Bl.refl _ | with_reducible refine Bl.drew ?_)); done)
      | (refine own_two (t := 49) (Bl.trans hb2 (Bl.trans ?_ g4)) (Bl.trans ?_ g4) <;> (repeat (first | with_reducible exact Bl.refl _ | with_reducible refine Bl.drew ?_)); done)
      | (refine own_two (t := 49) (Bl.trans hb2 (Bl.trans ?_ (Bl.trans g4 g5))) (Bl.trans ?_ (Bl.trans g4 g5)) <;> (repeat (first | with_reducible exact Bl.refl _ | with_reducible refine Bl.drew ?_)); done)
      | (refine keep_set3 hz hy (Bl.trans hb2 (Bl.trans ((Bl.refl _).drew) (Bl.trans g4 g5))) (Bl.trans ((Bl.refl _).drew) (Bl.trans g4 g5)) _ _ _; done))
    (first
      | (go_at_call 44; refine (TT.out _ _ (by refine H2.out.bl ?_; (repeat (first | with_reducible exact Bl.refl _ | with_reducible refine Bl.drew ?_ | with_reducible refine Bl.alloc ?_ _)); done)).mono ?_; rintro e w4 ⟨v4, rfl, h4, g4⟩; have H4 := Lib.hid h4; clear h4)
      | (go_at_call 52; refine (TM2.out _ _ _ (by refine HONE.out.bl (Bl.trans ((Bl.refl w1).alloc _) (Bl.trans hb2 (Bl.trans ?_ g4))); (repeat (first | with_reducible exact Bl.refl _ | with_reducible refine Bl.drew ?_)); done) H4.out).mono ?_; rintro e w5 ⟨v5, rfl, h5, g5⟩; have H5 := Lib.hid h5; obtain ⟨n9, o9, l9, c9, o10, l10, c10, rfl⟩ := h5.form; clear h5; have hf5 := Bl.trans hg3 (Bl.trans ((Bl.refl _).drew) (Bl.trans g4 g5)); obtain ⟨r0, r1, r2⟩ := own3 (n := w.heap.size + 1 + 1) (by simp) hf5; obtain ⟨f0, f1, f2⟩ := own3f (n := w.heap.size + 1 + 1) (by simp) hf5))
  go_wp2_with fail
  refine bodyPost_ret (v := .agg #[.bool n9, .slice o9 l9 c9, .slice o10 l10 c10]) (by simp [results, Try.results31, go_sem, r0, r1, r2]) rfl ?_
  exact good_done (n := w.heap.size + 1 + 1) (by simp) (hf5) (((Bl.refl w).alloc _).alloc _) (hG.out _ _ H5.out)
end Go.Proofs.Ytdienaigmkaheaa
