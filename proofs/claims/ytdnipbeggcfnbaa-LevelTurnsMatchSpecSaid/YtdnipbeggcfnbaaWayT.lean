/- The reference's Way: the soft and the stepped curve. -/
import Derived.Test.YtdnipbeggcfnbaaWayS
namespace Go.Proofs.Ytdnipbeggcfnbaa
open Go.RowKit

theorem bd4 {p q : Int} (p0 : 0 ≤ p) (p1 : p ≤ q) (q0 : 1 ≤ q) (q1 : q ≤ 36000000) : 0 ≤ p * p ∧ p * p ≤ q * q ∧ 0 ≤ p * q ∧ p * q ≤ q * q ∧ 1 ≤ q * q ∧ q * q ≤ 1296000000000000 ∧ 1 ≤ q * q * (q * q) ∧ q * q * (q * q) ≤ 1679616000000000000000000000000 ∧
    0 ≤ p * p * (3 * (q * q) - 2 * (p * q)) ∧ p * p * (3 * (q * q) - 2 * (p * q)) ≤ q * q * (q * q) := by
  obtain ⟨h1, h2, h3, h4⟩ := q_bd q0 q1
  have h5 := Int.mul_nonneg p0 p0
  have h6 := sq_le p0 p1
  have h7 := Int.mul_nonneg p0 (show 0 ≤ q by omega)
  have h8 : p * q ≤ q * q := Int.mul_le_mul_of_nonneg_right p1 (by omega)
  have h9 := soft_le p0 p1
  have e : p * p * (3 * (q * q) - 2 * (p * q)) = p * p * (3 * q - 2 * p) * q := by grind
  have e2 : q * q * (q * q) = q * q * q * q := by grind
  have h10 := Int.mul_le_mul_of_nonneg_right h9 (show 0 ≤ q by omega)
  have h11 := Int.mul_nonneg (Int.mul_nonneg h5 (show 0 ≤ 3 * q - 2 * p by omega)) (show 0 ≤ q by omega)
  omega
theorem keep_set3b {W' : World} {m n j : Nat} {u : Value} (h : n ≠ m) (hc : W'.cell? ⟨n, j, none⟩ = some u) (u0 u1 u2 : Value) : (((W'.setCell ⟨m, 0, none⟩ u0).setCell ⟨m, 1, none⟩ u1).setCell ⟨m, 2, none⟩ u2).cell? ⟨n, j, none⟩ = some u := by
  rw [World.cell?_of_block (Below.heap_setCell _ _ _ _ (by simpa using h)), World.cell?_of_block (Below.heap_setCell _ _ _ _ (by simpa using h)), World.cell?_of_block (Below.heap_setCell _ _ _ _ (by simpa using h))]
  exact hc

set_option maxRecDepth 100000 in
set_option maxHeartbeats 6400000 in
theorem way4 (sv v : Value) (o : Option Addr) (n cap : Nat) (hsv : sv = .slice o n cap) (p q : Int) (w : World) (hv : Fr w v p q) (p0 : 0 ≤ p) (p1 : p ≤ q) (q0 : 1 ≤ q) (q1 : q ≤ 36000000) :
    Calls Try.prog 58 #[.agg #[.int .i64 4, sv], v] w (PGood (wN 4 [] p q) (wD 4 [] p q) w) := by
  subst hsv
  obtain ⟨b1, b2, b3, b4, b5, b6, b7, b8, b9, b10⟩ := bd4 p0 p1 q0 q1
  have TT := Lib.hid (fun w' (g : Bl w w') => times_fr v v p q p q w' (hv.bl g) (hv.bl g) (lt4 (by omega)).2.1 (lt4 (by omega)).2.1 (lt4 (by omega)).2.1 (lt4 (by omega)).2.1 (lt4 (by omega)).2.1 (lt4 (by omega)).2.2)
  have TP := Lib.hid (fun w' (g : Bl w w') => plus_fr v v p q p q w' (hv.bl g) (hv.bl g) (lt4 (by omega)).2.1 (lt4 (by omega)).2.1 (lt4 (by omega)).2.1 (lt4 (by omega)).2.1 (lt4 (by omega)).2.1 (lt4 (by omega)).2.2)
  have TM := Lib.hid (fun w' v1 v2 (h : Fr w' v1 3 1) (h2 : Fr w' v2 (p * q + p * q) (q * q)) => minus_fr v1 v2 3 1 (p * q + p * q) (q * q) w' h h2 (lt4 (by omega)).2.1 (lt4 (by omega)).2.1 (lt4 (by omega)).2.1 (lt4 (by omega)).2.1 (lt4 (by omega)).2.1 (lt4 (by omega)).2.2)
  have TU := Lib.hid (fun w' v1 v2 (h : Fr w' v1 (p * p) (q * q)) (h2 : Fr w' v2 (3 * (q * q) - 2 * (p * q)) (q * q)) => times_fr v1 v2 (p * p) (q * q) (3 * (q * q) - 2 * (p * q)) (q * q) w' h h2 (lt4 (by omega)).2.1 (lt4 (by omega)).2.1 (lt4 (by omega)).2.1 (lt4 (by omega)).2.1 (lt4 (by omega)).2.1 (lt4 (by omega)).2.2)
  have TW := Lib.hid (fun w' => whole_any 3 w' (by omega) (by omega))
  have hG : Hid (∀ w' v', Fr w' v' (p * p * (3 * (q * q) - 2 * (p * q))) (q * q * (q * q)) → GoodFr w' v' (wN 4 [] p q) (wD 4 [] p q)) := fun w' v' h => ⟨_, _, h, b9, b10, (lt4 (by omega)).1, by show _ * (q * q * q) = p * p * (3 * q - 2 * p) * _; grind⟩
  clear b1 b2 b3 b4 b5 b6 b7 b8 b9 b10
  obtain ⟨n1, o1, l1, c1, o2, l2, c2, rfl⟩ := hv.form
  clear hv
  go_enter Try.func58, Try.ntmps58
  go_wp2_with fail
  refine (whole_any 1 _ (by omega) (by omega)).mono ?_
  rintro e w1 ⟨v1, rfl, h1, g1⟩
  obtain ⟨n3, o3, l3, c3, o4, l4, c4, rfl⟩ := h1.form
  have HONE := Lib.hid h1
  clear h1
  have hb := Bl.trans ((Bl.refl _).alloc _) g1
  have hz : w.heap.size + 1 + 1 < w1.heap.size := by have := g1.size; simp at this; omega
  have hz1 : w.heap.size + 1 < w1.heap.size := by omega
  have hz0 : w.heap.size < w1.heap.size := by omega
  obtain ⟨⟨k0, k1⟩, k2, k3, k4⟩ := own25 w _ _ _ _ _ _ _ hb
  go_wp2_with fail
  have hb2 : Bl ((w.alloc (.cells #[.int .i64 4, .slice o n cap] 40)).alloc (.cells #[.bool n1, .slice o1 l1 c1, .slice o2 l2 c2] 76)) (w1.alloc (.cells #[.bool n3, .slice o3 l3 c3, .slice o4 l4 c4] 76)) := hb.alloc _
  have hb3 := g1.alloc (.cells #[.bool n3, .slice o3 l3 c3, .slice o4 l4 c4] 76)
  have hw2 : Bl w (w1.alloc (.cells #[.bool n3, .slice o3 l3 c3, .slice o4 l4 c4] 76)) := (((Bl.refl w).alloc _).alloc _).trans hb2
  clear k0 k1 k2 k3 k4
  go_region_held3 (fun w' => w'.cell? ⟨w.heap.size + 1, 0, none⟩ = some (.bool n1) ∧ w'.cell? ⟨w.heap.size + 1, 1, none⟩ = some (.slice o1 l1 c1) ∧ w'.cell? ⟨w.heap.size + 1, 2, none⟩ = some (.slice o2 l2 c2))
    (first
      | (refine (own25 w _ _ _ _ _ _ _ (Bl.trans hb2 ?_)).2; (repeat (first | with_reducible exact Bl.refl _ | with_reducible refine Bl.drew ?_)); done)
      | (refine (own25 w _ _ _ _ _ _ _ (Bl.trans hb2 (Bl.trans ?_ g2))).2; (repeat (first | with_reducible exact Bl.refl _ | with_reducible refine Bl.drew ?_)); done)
      | (refine (own25 w _ _ _ _ _ _ _ (Bl.trans hb2 (Bl.trans ?_ (Bl.trans g2 g3)))).2; (repeat (first | with_reducible exact Bl.refl _ | with_reducible refine Bl.drew ?_)); done)
      | (refine (own25 w _ _ _ _ _ _ _ (Bl.trans hb2 (Bl.trans ?_ (Bl.trans g2 (Bl.trans g3 g4))))).2; (repeat (first | with_reducible exact Bl.refl _ | with_reducible refine Bl.drew ?_)); done)
      | (refine (own25 w _ _ _ _ _ _ _ (Bl.trans hb2 (Bl.trans ?_ (Bl.trans g2 (Bl.trans g3 (Bl.trans g4 g5)))))).2; (repeat (first | with_reducible exact Bl.refl _ | with_reducible refine Bl.drew ?_)); done)
      | (refine (own25 w _ _ _ _ _ _ _ (Bl.trans hb2 (Bl.trans ?_ (Bl.trans g2 (Bl.trans g3 (Bl.trans g4 (Bl.trans g5 g6))))))).2; (repeat (first | with_reducible exact Bl.refl _ | with_reducible refine Bl.drew ?_)); done)
      | (refine ⟨keep_set3b (by omega) hx.1 _ _ _, keep_set3b (by omega) hx.2.1 _ _ _, keep_set3b (by omega) hx.2.2 _ _ _⟩; done))
    (first
      | (go_at_call 84; ((with_reducible refine (TT.out _ ?_).mono ?_); (focus (refine Bl.trans hw2 ?_; (repeat (first | with_reducible exact Bl.refl _ | with_reducible refine Bl.drew ?_)); done)); rintro e w2 ⟨v2, rfl, h2, g2⟩; have H2 := Lib.hid h2; clear h2))
      | (go_at_call 83; refine (TW.out _).mono ?_; rintro e w3 ⟨v3, rfl, h3, g3⟩; have H3 := Lib.hid h3; clear h3)
      | (go_at_call 80; ((with_reducible refine (TP.out _ ?_).mono ?_); (focus (refine Bl.trans hw2 (Bl.trans ?_ (Bl.trans g2 g3)); (repeat (first | with_reducible exact Bl.refl _ | with_reducible refine Bl.drew ?_)); done)); rintro e w4 ⟨v4, rfl, h4, g4⟩; have H4 := Lib.hid h4; clear h4))
      | (go_at_call 92; refine (TM.out _ _ _ (by exact H3.out.bl g4) H4.out).mono ?_; rintro e w5 ⟨v5, rfl, h5, g5⟩; have H5 := Lib.hid (fr_eq h5 (show 3 * (q * q) - (p * q + p * q) * 1 = 3 * (q * q) - 2 * (p * q) by omega) (show 1 * (q * q) = q * q by omega)); clear h5)
      | (go_at_call 84; refine (TU.out _ _ _ (by exact H2.out.bl (g3.trans (g4.trans g5))) H5.out).mono ?_; rintro e w6 ⟨v6, rfl, h6, g6⟩; have H6 := Lib.hid h6; obtain ⟨n9, o9, l9, c9, o10, l10, c10, rfl⟩ := h6.form; clear h6; have hf6 := Bl.trans hb3 (Bl.trans ((Bl.refl _).drew) (Bl.trans g2 (Bl.trans g3 (Bl.trans g4 (Bl.trans g5 g6))))); obtain ⟨r0, r1, r2⟩ := own3 (n := w.heap.size + 1 + 1) (by simp) hf6; obtain ⟨f0, f1, f2⟩ := own3f (n := w.heap.size + 1 + 1) (by simp) hf6; have hx := (own25 w _ _ _ _ _ _ _ (Bl.trans hb2 (Bl.trans ((Bl.refl _).drew) (Bl.trans g2 (Bl.trans g3 (Bl.trans g4 (Bl.trans g5 g6))))))).2))
  go_wp2_with fail
  refine bodyPost_ret (v := .agg #[.bool n9, .slice o9 l9 c9, .slice o10 l10 c10]) (by simp [results, Try.results58, go_sem, r0, r1, r2]) rfl ?_
  exact good_done (n := w.heap.size + 1 + 1) (by simp) (hf6) (((Bl.refl w).alloc _).alloc _) (hG.out _ _ H6.out)

set_option maxRecDepth 100000 in
set_option maxHeartbeats 6400000 in
theorem way5a (sv v : Value) (o : Option Addr) (n cap : Nat) (hsv : sv = .slice o n cap) (p q : Int) (w : World) (hv : Fr w v p q) (p0 : 0 ≤ p) (_p1 : p ≤ q) (q0 : 1 ≤ q) (q1 : q ≤ 36000000) (hlt : p < q) :
    Calls Try.prog 58 #[.agg #[.int .i64 5, sv], v] w (PGood (wN 5 [] p q) (wD 5 [] p q) w) := by
  subst hsv
  have hc : cmpV (p * 1) (1 * q) < 0 := by rw [cmpV_lt (by omega)]; omega
  have TO := fun w' v1 (g : Bl w w') (h : Fr w' v1 1 1) => order_fr v v1 p q 1 1 w' (hv.bl g) h (lt4 (by omega)).2.1 (lt4 (by omega)).2.1 (lt4 (by omega)).2.1 (lt4 (by omega)).2.1 (lt4 (by omega)).2.1 (lt4 (by omega)).2.2
  unfold PCmp at TO
  generalize cmpV (p * 1) (1 * q) = cv at *
  have TO := Lib.hid TO
  have hG : Hid (∀ w' v', Fr w' v' 0 1 → GoodFr w' v' (wN 5 [] p q) (wD 5 [] p q)) := fun w' v' h => ⟨0, 1, h, by omega, by omega, (lt4 (by omega)).1, by show 0 * 1 = p / q * 1; rw [Int.ediv_eq_zero_of_lt p0 hlt]⟩
  obtain ⟨n1, o1, l1, c1, o2, l2, c2, rfl⟩ := hv.form
  clear hv
  go_enter Try.func58, Try.ntmps58
  go_wp2_with fail
  refine (whole_any 1 _ (by omega) (by omega)).mono ?_
  rintro e w1 ⟨v1, rfl, h1, g1⟩
  obtain ⟨n3, o3, l3, c3, o4, l4, c4, rfl⟩ := h1.form
  have HONE := Lib.hid h1
  clear h1
  have hb := Bl.trans ((Bl.refl _).alloc _) g1
  have hz : w.heap.size + 1 + 1 < w1.heap.size := by have := g1.size; simp at this; omega
  have hz1 : w.heap.size + 1 < w1.heap.size := by omega
  have hz0 : w.heap.size < w1.heap.size := by omega
  obtain ⟨⟨k0, k1⟩, k2, k3, k4⟩ := own25 w _ _ _ _ _ _ _ hb
  go_wp2_with fail
  refine (TO.out _ _ (((((Bl.refl w).alloc _).alloc _).alloc _).trans (g1.alloc _)) (HONE.out.bl ((Bl.refl w1).alloc _))).mono ?_
  rintro e w2 ⟨rfl, g2⟩
  have g3 := (g1.alloc (.cells #[.bool n3, .slice o3 l3 c3, .slice o4 l4 c4] 76)).trans g2
  obtain ⟨j0, j1, j2⟩ := own3 (n := w1.heap.size) rfl g2
  clear k0 k1 k2 k3 k4
  go_wp2_with fail
  refine (whole_any 0 _ (by omega) (by omega)).mono ?_
  rintro e w4 ⟨v4, rfl, h4, g4⟩
  obtain ⟨n9, o9, l9, c9, o10, l10, c10, rfl⟩ := h4.form
  have H4 := Lib.hid h4
  clear h4
  obtain ⟨r0, r1, r2⟩ := own3 (n := w.heap.size + 1 + 1) (by simp) (g3.trans g4)
  obtain ⟨f0, f1, f2⟩ := own3f (n := w.heap.size + 1 + 1) (by simp) (g3.trans g4)
  go_wp2_with fail
  refine bodyPost_ret (v := .agg #[.bool n9, .slice o9 l9 c9, .slice o10 l10 c10]) (by simp [results, Try.results58, go_sem, r0, r1, r2]) rfl ?_
  exact good_done (n := w.heap.size + 1 + 1) (by simp) (g3.trans g4) (((Bl.refl w).alloc _).alloc _) (hG.out _ _ H4.out)

set_option maxRecDepth 100000 in
set_option maxHeartbeats 6400000 in
theorem way5b (sv v : Value) (o : Option Addr) (n cap : Nat) (hsv : sv = .slice o n cap) (p q : Int) (w : World) (hv : Fr w v p q) (_p0 : 0 ≤ p) (_p1 : p ≤ q) (q0 : 1 ≤ q) (q1 : q ≤ 36000000) (heq : p = q) :
    Calls Try.prog 58 #[.agg #[.int .i64 5, sv], v] w (PGood (wN 5 [] p q) (wD 5 [] p q) w) := by
  subst hsv
  have hc : 0 ≤ cmpV (p * 1) (1 * q) := by rw [show p * 1 = 1 * q by omega, cmpV_eq]; omega
  have TO := fun w' v1 (g : Bl w w') (h : Fr w' v1 1 1) => order_fr v v1 p q 1 1 w' (hv.bl g) h (lt4 (by omega)).2.1 (lt4 (by omega)).2.1 (lt4 (by omega)).2.1 (lt4 (by omega)).2.1 (lt4 (by omega)).2.1 (lt4 (by omega)).2.2
  unfold PCmp at TO
  generalize cmpV (p * 1) (1 * q) = cv at *
  have TO := Lib.hid TO
  have hG : Hid (∀ w' v', Fr w' v' 1 1 → GoodFr w' v' (wN 5 [] p q) (wD 5 [] p q)) := fun w' v' h => ⟨1, 1, h, by omega, by omega, (lt4 (by omega)).1, by show 1 * 1 = p / q * 1; rw [heq, Int.ediv_self (by omega)]⟩
  obtain ⟨n1, o1, l1, c1, o2, l2, c2, rfl⟩ := hv.form
  clear hv
  go_enter Try.func58, Try.ntmps58
  go_wp2_with fail
  refine (whole_any 1 _ (by omega) (by omega)).mono ?_
  rintro e w1 ⟨v1, rfl, h1, g1⟩
  obtain ⟨n3, o3, l3, c3, o4, l4, c4, rfl⟩ := h1.form
  have HONE := Lib.hid h1
  clear h1
  have hb := Bl.trans ((Bl.refl _).alloc _) g1
  have hz : w.heap.size + 1 + 1 < w1.heap.size := by have := g1.size; simp at this; omega
  have hz1 : w.heap.size + 1 < w1.heap.size := by omega
  have hz0 : w.heap.size < w1.heap.size := by omega
  obtain ⟨⟨k0, k1⟩, k2, k3, k4⟩ := own25 w _ _ _ _ _ _ _ hb
  go_wp2_with fail
  refine (TO.out _ _ (((((Bl.refl w).alloc _).alloc _).alloc _).trans (g1.alloc _)) (HONE.out.bl ((Bl.refl w1).alloc _))).mono ?_
  rintro e w2 ⟨rfl, g2⟩
  have g3 := (g1.alloc (.cells #[.bool n3, .slice o3 l3 c3, .slice o4 l4 c4] 76)).trans g2
  obtain ⟨j0, j1, j2⟩ := own3 (n := w1.heap.size) rfl g2
  clear k0 k1 k2 k3 k4
  obtain ⟨r0, r1, r2⟩ := own3 (n := w.heap.size + 1 + 1) (by simp) g3
  obtain ⟨f0, f1, f2⟩ := own3f (n := w.heap.size + 1 + 1) (by simp) g3
  go_wp2_with fail
  refine bodyPost_ret (v := .agg #[.bool n3, .slice o3 l3 c3, .slice o4 l4 c4]) (by simp [results, Try.results58, go_sem, r0, r1, r2]) rfl ?_
  exact good_done (n := w.heap.size + 1 + 1) (by simp) (g3) (((Bl.refl w).alloc _).alloc _) (hG.out _ _ (HONE.out.bl (((Bl.refl w1).alloc _).trans g2)))
end Go.Proofs.Ytdnipbeggcfnbaa
