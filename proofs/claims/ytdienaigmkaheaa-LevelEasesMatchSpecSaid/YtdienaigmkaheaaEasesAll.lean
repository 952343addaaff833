/- LevelEasesMatchSpec is proved: Ease answers as the reference does, for all curves and parts, with no condition. -/
import Derived.Test.YtdienaigmkaheaaWayS
import Derived.Test.YtdienaigmkaheaaCourse
import Derived.Test.YtdienaigmkaheaaGr
import Derived.ProofKit
import Derived.OpenShut
import Derived.Handy
import Derived.Deep.Slices
import Derived.Test.YtdienaigmkaheaaCheck
import Derived.Test.YtdienaigmkaheaaEaseR
/- The reference's Way: the soft and the stepped curve. -/
namespace Go.Proofs.Ytdienaigmkaheaa
open Go.RowKit

theorem bd4 {p q : Int} (p0 : 0 ≤ p) (p1 : p ≤ q) (q0 : 1 ≤ q) (q1 : q ≤ 36000000) : 0 ≤ p * p ∧ p * p ≤ q * q ∧ 0 ≤ p * q ∧ p * q ≤ q * q ∧ 1 ≤ q * q ∧ q * q ≤ 1296000000000000 ∧ 1 ≤ q * q * (q * q) ∧ q * q * (q * q) ≤ 1679616000000000000000000000000 ∧
    0 ≤ p * p * (3 * (q * q) - 2 * (p * q)) ∧ p * p * (3 * (q * q) - 2 * (p * q)) ≤ q * q * (q * q) := by
  obtain ⟨h1, h2, h3, h4⟩ := q_bd q0 q1
  have h5 := Int.mul_nonneg p0 p0
  have h6 := sq_le p0 p1
  have h7 := Int.mul_nonneg p0 (show 0 ≤ q by omega)
  have h8 : p * q ≤ q * q := Int.mul_le_mul_of_nonneg_right p1 (by omega)
  have h9 := soft_le p0 p1
  have e : p * p * (3 * (q * q) - 2 * (p * q)) = p * p * (3 * q - 2 * p) * q := by grind
  have e2 : q * q * (q * q) = q * q * q * q := by grind
  have h10 := Int.mul_le_mul_of_nonneg_right h9 (show 0 ≤ q by omega)
  have h11 := Int.mul_nonneg (Int.mul_nonneg h5 (show 0 ≤ 3 * q - 2 * p by omega)) (show 0 ≤ q by omega)
  omega
theorem keep_set3b {W' : World} {m n j : Nat} {u : Value} (h : n ≠ m) (hc : W'.cell? ⟨n, j, none⟩ = some u) (u0 u1 u2 : Value) : (((W'.setCell ⟨m, 0, none⟩ u0).setCell ⟨m, 1, none⟩ u1).setCell ⟨m, 2, none⟩ u2).cell? ⟨n, j, none⟩ = some u := by
  rw [World.cell?_of_block (Below.heap_setCell _ _ _ _ (by simpa using h)), World.cell?_of_block (Below.heap_setCell _ _ _ _ (by simpa using h)), World.cell?_of_block (Below.heap_setCell _ _ _ _ (by simpa using h))]
  exact hc

set_option maxRecDepth 100000 in
set_option maxHeartbeats 6400000 in
theorem way4 (sv v : Value) (o : Option Addr) (n cap : Nat) (hsv : sv = .slice o n cap) (p q : Int) (w : World) (hv : Fr w v p q) (p0 : 0 ≤ p) (p1 : p ≤ q) (q0 : 1 ≤ q) (q1 : q ≤ 36000000) :
    Calls Try.prog 31 #[.agg #[.int .i64 4, sv], v] w (PGood (wN 4 [] p q) (wD 4 [] p q) w) := by
  subst hsv
  obtain ⟨b1, b2, b3, b4, b5, b6, b7, b8, b9, b10⟩ := bd4 p0 p1 q0 q1
  have TT := Lib.hid (fun w' (g : Bl w w') => times_fr v v p q p q w' (hv.bl g) (hv.bl g) (lt4 (by omega)).2.1 (lt4 (by omega)).2.1 (lt4 (by omega)).2.1 (lt4 (by omega)).2.1 (lt4 (by omega)).2.1 (lt4 (by omega)).2.2)
  have TP := Lib.hid (fun w' (g : Bl w w') => plus_fr v v p q p q w' (hv.bl g) (hv.bl g) (lt4 (by omega)).2.1 (lt4 (by omega)).2.1 (lt4 (by omega)).2.1 (lt4 (by omega)).2.1 (lt4 (by omega)).2.1 (lt4 (by omega)).2.2)
  have TM := Lib.hid (fun w' v1 v2 (h : Fr w' v1 3 1) (h2 : Fr w' v2 (p * q + p * q) (q * q)) => minus_fr v1 v2 3 1 (p * q + p * q) (q * q) w' h h2 (lt4 (by omega)).2.1 (lt4 (by omega)).2.1 (lt4 (by omega)).2.1 (lt4 (by omega)).2.1 (lt4 (by omega)).2.1 (lt4 (by omega)).2.2)
  have TU := Lib.hid (fun w' v1 v2 (h : Fr w' v1 (p * p) (q * q)) (h2 : Fr w' v2 (3 * (q * q) - 2 * (p * q)) (q * q)) => times_fr v1 v2 (p * p) (q * q) (3 * (q * q) - 2 * (p * q)) (q * q) w' h h2 (lt4 (by omega)).2.1 (lt4 (by omega)).2.1 (lt4 (by omega)).2.1 (lt4 (by omega)).2.1 (lt4 (by omega)).2.1 (lt4 (by omega)).2.2)
  have TW := Lib.hid (fun w' => whole_any 3 w' (by omega) (by omega))
  have hG : Hid (∀ w' v', Fr w' v' (p * p * (3 * (q * q) - 2 * (p * q))) (q * q * (q * q)) → GoodFr w' v' (wN 4 [] p q) (wD 4 [] p q)) := fun w' v' h => ⟨_, _, h, b9, b10, (lt4 (by omega)).1, by show _ * (q * q * q) = p * p * (3 * q - 2 * p) * _; grind⟩
  clear b1 b2 b3 b4 b5 b6 b7 b8 b9 b10
  obtain ⟨n1, o1, l1, c1, o2, l2, c2, rfl⟩ := hv.form
  clear hv
  go_enter Try.func31, Try.ntmps31
  go_wp2_with fail
  refine (whole_any 1 _ (by omega) (by omega)).mono ?_
  rintro e w1 ⟨v1, rfl, h1, g1⟩
  obtain ⟨n3, o3, l3, c3, o4, l4, c4, rfl⟩ := h1.form
  have HONE := Lib.hid h1
  clear h1
  have hb := Bl.trans ((Bl.refl _).alloc _) g1
  have hz : w.heap.size + 1 + 1 < w1.heap.size := by have := g1.size; simp at this; omega
  have hz1 : w.heap.size + 1 < w1.heap.size := by omega
  have hz0 : w.heap.size < w1.heap.size := by omega
  obtain ⟨⟨k0, k1⟩, k2, k3, k4⟩ := own25 w _ _ _ _ _ _ _ hb
  go_wp2_with fail
  have hb2 : Bl ((w.alloc (.cells #[.int .i64 4, .slice o n cap] 32)).alloc (.cells #[.bool n1, .slice o1 l1 c1, .slice o2 l2 c2] 49)) (w1.alloc (.cells #[.bool n3, .slice o3 l3 c3, .slice o4 l4 c4] 49)) := hb.alloc _
  have hb3 := g1.alloc (.cells #[.bool n3, .slice o3 l3 c3, .slice o4 l4 c4] 49)
  have hw2 : Bl w (w1.alloc (.cells #[.bool n3, .slice o3 l3 c3, .slice o4 l4 c4] 49)) := (((Bl.refl w).alloc _).alloc _).trans hb2
  clear k0 k1 k2 k3 k4
  go_region_held3 (fun w' => w'.cell? ⟨w.heap.size + 1, 0, none⟩ = some (.bool n1) ∧ w'.cell? ⟨w.heap.size + 1, 1, none⟩ = some (.slice o1 l1 c1) ∧ w'.cell? ⟨w.heap.size + 1, 2, none⟩ = some (.slice o2 l2 c2))
    (first
      | (refine (own25 w _ _ _ _ _ _ _ (Bl.trans hb2 ?_)).2; (repeat (first | with_reducible exact Bl.refl _ | with_reducible refine Bl.drew ?_)); done)
      | (refine (own25 w _ _ _ _ _ _ _ (Bl.trans hb2 (Bl.trans ?_ g2))).2; (repeat (first | with_reducible exact Bl.refl _ | with_reducible refine Bl.drew ?_)); done)
      | (refine (own25 w _ _ _ _ _ _ _ (Bl.trans hb2 (Bl.trans ?_ (Bl.trans g2 g3)))).2; (repeat (first | with_reducible exact Bl.refl _ | with_reducible refine Bl.drew ?_)); done)
      | (refine (own25 w _ _ _ _ _ _ _ (Bl.trans hb2 (Bl.trans ?_ (Bl.trans g2 (Bl.trans g3 g4))))).2; (repeat (first | with_reducible exact Bl.refl _ | with_reducible refine Bl.drew ?_)); done)
      | (refine (own25 w _ _ _ _ _ _ _ (Bl.trans hb2 (Bl.trans ?_ (Bl.trans g2 (Bl.trans g3 (Bl.trans g4 g5)))))).2; (repeat (first | with_reducible exact Bl.refl _ | with_reducible refine Bl.drew ?_)); done)
      | (refine (own25 w _ _ _ _ _ _ _ (Bl.trans hb2 (Bl.trans ?_ (Bl.trans g2 (Bl.trans g3 (Bl.trans g4 (Bl.trans g5 g6))))))).2; (repeat (first | with_reducible exact Bl.refl _ | with_reducible refine Bl.drew ?_)); done)
      | (refine ⟨keep_set3b (by omega) hx.1 _ _ _, keep_set3b (by omega) hx.2.1 _ _ _, keep_set3b (by omega) hx.2.2 _ _ _⟩; done))
    (first
      | (go_at_call 44; ((with_reducible refine (TT.out _ ?_).mono ?_); (focus (refine Bl.trans hw2 ?_; (repeat (first | with_reducible exact Bl.refl _ | with_reducible refine Bl.drew ?_)); done)); rintro e w2 ⟨v2, rfl, h2, g2⟩; have H2 := Lib.hid h2; clear h2))
      | (go_at_call 43; refine (TW.out _).mono ?_; rintro e w3 ⟨v3, rfl, h3, g3⟩; have H3 := Lib.hid h3; clear h3)
      | (go_at_call 40; ((with_reducible refine (TP.out _ ?_).mono ?_); (focus (refine Bl.trans hw2 (Bl.trans ?_ (Bl.trans g2 g3)); (repeat (first | with_reducible exact Bl.refl _ | with_reducible refine Bl.drew ?_)); done)); rintro e w4 ⟨v4, rfl, h4, g4⟩; have H4 := Lib.hid h4; clear h4))
      | (go_at_call 52; refine (TM.out _ _ _ (by exact H3.out.bl g4) H4.out).mono ?_; rintro e w5 ⟨v5, rfl, h5, g5⟩; have H5 := Lib.hid (fr_eq h5 (show 3 * (q * q) - (p * q + p * q) * 1 = 3 * (q * q) - 2 * (p * q) by omega) (show 1 * (q * q) = q * q by omega)); clear h5)
      | (go_at_call 44; refine (TU.out _ _ _ (by exact H2.out.bl (g3.trans (g4.trans g5))) H5.out).mono ?_; rintro e w6 ⟨v6, rfl, h6, g6⟩; have H6 := Lib.hid h6; obtain ⟨n9, o9, l9, c9, o10, l10, c10, rfl⟩ := h6.form; clear h6; have hf6 := Bl.trans hb3 (Bl.trans ((Bl.refl _).drew) (Bl.trans g2 (Bl.trans g3 (Bl.trans g4 (Bl.trans g5 g6))))); obtain ⟨r0, r1, r2⟩ := own3 (n := w.heap.size + 1 + 1) (by simp) hf6; obtain ⟨f0, f1, f2⟩ := own3f (n := w.heap.size + 1 + 1) (by simp) hf6; have hx := (own25 w _ _ _ _ _ _ _ (Bl.trans hb2 (Bl.trans ((Bl.refl _).drew) (Bl.trans g2 (Bl.trans g3 (Bl.trans g4 (Bl.trans g5 g6))))))).2))
  go_wp2_with fail
  refine bodyPost_ret (v := .agg #[.bool n9, .slice o9 l9 c9, .slice o10 l10 c10]) (by simp [results, Try.results31, go_sem, r0, r1, r2]) rfl ?_
  exact good_done (n := w.heap.size + 1 + 1) (by simp) (hf6) (((Bl.refl w).alloc _).alloc _) (hG.out _ _ H6.out)

set_option maxRecDepth 100000 in
set_option maxHeartbeats 6400000 in
theorem way5a (sv v : Value) (o : Option Addr) (n cap : Nat) (hsv : sv = .slice o n cap) (p q : Int) (w : World) (hv : Fr w v p q) (p0 : 0 ≤ p) (_p1 : p ≤ q) (q0 : 1 ≤ q) (q1 : q ≤ 36000000) (hlt : p < q) :
    Calls Try.prog 31 #[.agg #[.int .i64 5, sv], v] w (PGood (wN 5 [] p q) (wD 5 [] p q) w) := by
  subst hsv
  have hc : cmpV (p * 1) (1 * q) < 0 := by rw [cmpV_lt (by omega)]; omega
  have TO := fun w' v1 (g : Bl w w') (h : Fr w' v1 1 1) => order_fr v v1 p q 1 1 w' (hv.bl g) h (lt4 (by omega)).2.1 (lt4 (by omega)).2.1 (lt4 (by omega)).2.1 (lt4 (by omega)).2.1 (lt4 (by omega)).2.1 (lt4 (by omega)).2.2
  unfold PCmp at TO
  generalize cmpV (p * 1) (1 * q) = cv at *
  have TO := Lib.hid TO
  have hG : Hid (∀ w' v', Fr w' v' 0 1 → GoodFr w' v' (wN 5 [] p q) (wD 5 [] p q)) := fun w' v' h => ⟨0, 1, h, by omega, by omega, (lt4 (by omega)).1, by show 0 * 1 = p / q * 1; rw [Int.ediv_eq_zero_of_lt p0 hlt]⟩
  obtain ⟨n1, o1, l1, c1, o2, l2, c2, rfl⟩ := hv.form
  clear hv
  go_enter Try.func31, Try.ntmps31
  go_wp2_with fail
  refine (whole_any 1 _ (by omega) (by omega)).mono ?_
  rintro e w1 ⟨v1, rfl, h1, g1⟩
  obtain ⟨n3, o3, l3, c3, o4, l4, c4, rfl⟩ := h1.form
  have HONE := Lib.hid h1
  clear h1
  have hb := Bl.trans ((Bl.refl _).alloc _) g1
  have hz : w.heap.size + 1 + 1 < w1.heap.size := by have := g1.size; simp at this; omega
  have hz1 : w.heap.size + 1 < w1.heap.size := by omega
  have hz0 : w.heap.size < w1.heap.size := by omega
  obtain ⟨⟨k0, k1⟩, k2, k3, k4⟩ := own25 w _ _ _ _ _ _ _ hb
  go_wp2_with fail
  refine (TO.out _ _ (((((Bl.refl w).alloc _).alloc _).alloc _).trans (g1.alloc _)) (HONE.out.bl ((Bl.refl w1).alloc _))).mono ?_
  rintro e w2 ⟨rfl, g2⟩
  have g3 := (g1.alloc (.cells #[.bool n3, .slice o3 l3 c3, .slice o4 l4 c4] 49)).trans g2
  obtain ⟨j0, j1, j2⟩ := own3 (n := w1.heap.size) rfl g2
  clear k0 k1 k2 k3 k4
  go_wp2_with fail
  refine (whole_any 0 _ (by omega) (by omega)).mono ?_
  rintro e w4 ⟨v4, rfl, h4, g4⟩
  obtain ⟨n9, o9, l9, c9, o10, l10, c10, rfl⟩ := h4.form
  have H4 := Lib.hid h4
  clear h4
  obtain ⟨r0, r1, r2⟩ := own3 (n := w.heap.size + 1 + 1) (by simp) (g3.trans g4)
  obtain ⟨f0, f1, f2⟩ := own3f (n := w.heap.size + 1 + 1) (by simp) (g3.trans g4)
  go_wp2_with fail
  refine bodyPost_ret (v := .agg #[.bool n9, .slice o9 l9 c9, .slice o10 l10 c10]) (by simp [results, Try.results31, go_sem, r0, r1, r2]) rfl ?_
  exact good_done (n := w.heap.size + 1 + 1) (by simp) (g3.trans g4) (((Bl.refl w).alloc _).alloc _) (hG.out _ _ H4.out)

set_option maxRecDepth 100000 in
set_option maxHeartbeats 6400000 in
theorem way5b (sv v : Value) (o : Option Addr) (n cap : Nat) (hsv : sv = .slice o n cap) (p q : Int) (w : World) (hv : Fr w v p q) (_p0 : 0 ≤ p) (_p1 : p ≤ q) (q0 : 1 ≤ q) (q1 : q ≤ 36000000) (heq : p = q) :
    Calls Try.prog 31 #[.agg #[.int .i64 5, sv], v] w (PGood (wN 5 [] p q) (wD 5 [] p q) w) := by
  subst hsv
  have hc : 0 ≤ cmpV (p * 1) (1 * q) := by rw [show p * 1 = 1 * q by omega, cmpV_eq]; omega
  have TO := fun w' v1 (g : Bl w w') (h : Fr w' v1 1 1) => order_fr v v1 p q 1 1 w' (hv.bl g) h (lt4 (by omega)).2.1 (lt4 (by omega)).2.1 (lt4 (by omega)).2.1 (lt4 (by omega)).2.1 (lt4 (by omega)).2.1 (lt4 (by omega)).2.2
  unfold PCmp at TO
  generalize cmpV (p * 1) (1 * q) = cv at *
  have TO := Lib.hid TO
  have hG : Hid (∀ w' v', Fr w' v' 1 1 → GoodFr w' v' (wN 5 [] p q) (wD 5 [] p q)) := fun w' v' h => ⟨1, 1, h, by omega, by omega, (lt4 (by omega)).1, by show 1 * 1 = p / q * 1; rw [heq, Int.ediv_self (by omega)]⟩
  obtain ⟨n1, o1, l1, c1, o2, l2, c2, rfl⟩ := hv.form
  clear hv
  go_enter Try.func31, Try.ntmps31
  go_wp2_with fail
  refine (whole_any 1 _ (by omega) (by omega)).mono ?_
  rintro e w1 ⟨v1, rfl, h1, g1⟩
  obtain ⟨n3, o3, l3, c3, o4, l4, c4, rfl⟩ := h1.form
  have HONE := Lib.hid h1
  clear h1
  have hb := Bl.trans ((Bl.refl _).alloc _) g1
  have hz : w.heap.size + 1 + 1 < w1.heap.size := by have := g1.size; simp at this; omega
  have hz1 : w.heap.size + 1 < w1.heap.size := by omega
  have hz0 : w.heap.size < w1.heap.size := by omega
  obtain ⟨⟨k0, k1⟩, k2, k3, k4⟩ := own25 w _ _ _ _ _ _ _ hb
  go_wp2_with fail
  refine (TO.out _ _ (((((Bl.refl w).alloc _).alloc _).alloc _).trans (g1.alloc _)) (HONE.out.bl ((Bl.refl w1).alloc _))).mono ?_
  rintro e w2 ⟨rfl, g2⟩
  have g3 := (g1.alloc (.cells #[.bool n3, .slice o3 l3 c3, .slice o4 l4 c4] 49)).trans g2
  obtain ⟨j0, j1, j2⟩ := own3 (n := w1.heap.size) rfl g2
  clear k0 k1 k2 k3 k4
  obtain ⟨r0, r1, r2⟩ := own3 (n := w.heap.size + 1 + 1) (by simp) g3
  obtain ⟨f0, f1, f2⟩ := own3f (n := w.heap.size + 1 + 1) (by simp) g3
  go_wp2_with fail
  refine bodyPost_ret (v := .agg #[.bool n3, .slice o3 l3 c3, .slice o4 l4 c4]) (by simp [results, Try.results31, go_sem, r0, r1, r2]) rfl ?_
  exact good_done (n := w.heap.size + 1 + 1) (by simp) (g3) (((Bl.refl w).alloc _).alloc _) (hG.out _ _ (HONE.out.bl (((Bl.refl w1).alloc _).trans g2)))
end Go.Proofs.Ytdienaigmkaheaa

/- The reference's way along a table. -/
namespace Go.Proofs.Ytdienaigmkaheaa
open Go.RowKit


/-- A local that is the fraction p / q. -/
def LocFr (W : World) (p q : Int) (s : Value) (wx : World) : Prop := ∃ (b : Nat) (n : Bool) (o1 : Option Addr) (l1 c1 : Nat) (o2 : Option Addr) (l2 c2 : Nat), s = .pointer (some ⟨b, 0, none⟩) ∧
  (wx.cell? ⟨b, 0, none⟩ = some (.bool n) ∧ wx.cell? ⟨b, 1, none⟩ = some (.slice o1 l1 c1) ∧ wx.cell? ⟨b, 2, none⟩ = some (.slice o2 l2 c2)) ∧ Fr wx (.agg #[.bool n, .slice o1 l1 c1, .slice o2 l2 c2]) p q ∧ Bl W wx
/-- The two ends of a segment. -/
def EndsB (W : World) (a b : Int × Int) (s7 s8 : Value) (wx : World) : Prop := ∃ ba bb : Nat, s7 = .pointer (some ⟨ba, 0, none⟩) ∧ s8 = .pointer (some ⟨bb, 0, none⟩) ∧ Bl W wx ∧
  wx.cell? ⟨ba, 0, none⟩ = some (.int .i64 a.1) ∧ wx.cell? ⟨ba, 1, none⟩ = some (.int .i64 a.2) ∧ wx.cell? ⟨bb, 0, none⟩ = some (.int .i64 b.1) ∧ wx.cell? ⟨bb, 1, none⟩ = some (.int .i64 b.2)
def AlR (Wt : World) (l : List (Int × Int)) (p q : Int) (v : Value) (wr : World) : Prop := AlRel l p q v ∧ Bl Wt wr
theorem own2b {W W' : World} {n : Nat} {a b : Value} {t : TypeId} (hn : n = W.heap.size) (h : Bl (W.alloc (.cells #[a, b] t)) W') : W'.cell? ⟨n, 0, none⟩ = some a ∧ W'.cell? ⟨n, 1, none⟩ = some b := by
  subst hn; exact ⟨h.cell (by simp), h.cell (by simp)⟩

theorem keep_three {W' : World} {m n : Nat} {a b c : Value} (h : n ≠ m) (hc : W'.cell? ⟨n, 0, none⟩ = some a ∧ W'.cell? ⟨n, 1, none⟩ = some b ∧ W'.cell? ⟨n, 2, none⟩ = some c) (u0 u1 u2 : Value) :
    (((W'.setCell ⟨m, 0, none⟩ u0).setCell ⟨m, 1, none⟩ u1).setCell ⟨m, 2, none⟩ u2).cell? ⟨n, 0, none⟩ = some a ∧ (((W'.setCell ⟨m, 0, none⟩ u0).setCell ⟨m, 1, none⟩ u1).setCell ⟨m, 2, none⟩ u2).cell? ⟨n, 1, none⟩ = some b ∧ (((W'.setCell ⟨m, 0, none⟩ u0).setCell ⟨m, 1, none⟩ u1).setCell ⟨m, 2, none⟩ u2).cell? ⟨n, 2, none⟩ = some c :=
  ⟨keep_set3b h hc.1 _ _ _, keep_set3b h hc.2.1 _ _ _, keep_set3b h hc.2.2 _ _ _⟩
theorem own3_third {w W' : World} {oa ob : Obj} {a b c : Value} {t : TypeId} (h : Bl (((w.alloc oa).alloc ob).alloc (.cells #[a, b, c] t)) W') :
    (W'.cell? ⟨w.heap.size + 1 + 1, 0, none⟩ = some a ∧ W'.cell? ⟨w.heap.size + 1 + 1, 1, none⟩ = some b ∧ W'.cell? ⟨w.heap.size + 1 + 1, 2, none⟩ = some c) ∧ W'.frozen? ⟨w.heap.size + 1 + 1, 0, none⟩ = false ∧ W'.frozen? ⟨w.heap.size + 1 + 1, 1, none⟩ = false ∧ W'.frozen? ⟨w.heap.size + 1 + 1, 2, none⟩ = false :=
  ⟨own3 (n := w.heap.size + 1 + 1) (by simp) h, own3f (n := w.heap.size + 1 + 1) (by simp) h⟩

theorem loc_set {W0 W W' : World} {n : Nat} {t : TypeId} (hn : n = W.heap.size) (h : Bl (W.alloc (.cells #[.bool false, .slice none 0 0, .slice none 0 0] t)) W') (h0 : Bl W0 W) {p q : Int} {ng : Bool} {o1 : Option Addr} {l1 c1 : Nat} {o2 : Option Addr} {l2 c2 : Nat}
    (hf : Fr W' (.agg #[.bool ng, .slice o1 l1 c1, .slice o2 l2 c2]) p q) : LocFr W0 p q (.pointer (some ⟨n, 0, none⟩)) (((W'.setCell ⟨n, 0, none⟩ (.bool ng)).setCell ⟨n, 1, none⟩ (.slice o1 l1 c1)).setCell ⟨n, 2, none⟩ (.slice o2 l2 c2)) := by
  obtain ⟨k0, k1, k2⟩ := own3 hn h
  obtain ⟨ng', a1, a2, a3, a4, a5, a6, he, h1, h2, h3, h4⟩ := hf
  simp only [Value.agg.injEq, Array.mk.injEq, List.cons.injEq, Value.bool.injEq, Value.slice.injEq, and_true] at he
  obtain ⟨rfl, ⟨rfl, rfl, rfl⟩, ⟨rfl, rfl, rfl⟩⟩ := he
  refine ⟨n, _, _, _, _, _, _, _, rfl, ⟨?_, ?_, ?_⟩, ⟨_, _, _, _, _, _, _, rfl, nat_set3 hn h h1 _ _ _, nat_set3 hn h h2 _ _ _, h3, h4⟩, set3_bl hn h h0 _ _ _⟩
  all_goals simp [World.cell?_setCell_same', World.cell?_setCell_other, k0, k1, k2]
theorem own3both {W W' : World} {n : Nat} {t : TypeId} (hn : n = W.heap.size) (h : Bl (W.alloc (.cells #[.bool false, .slice none 0 0, .slice none 0 0] t)) W') :
    (W'.cell? ⟨n, 0, none⟩ = some (.bool false) ∧ W'.cell? ⟨n, 1, none⟩ = some (.slice none 0 0) ∧ W'.cell? ⟨n, 2, none⟩ = some (.slice none 0 0)) ∧ W'.frozen? ⟨n, 0, none⟩ = false ∧ W'.frozen? ⟨n, 1, none⟩ = false ∧ W'.frozen? ⟨n, 2, none⟩ = false :=
  ⟨own3 hn h, own3f hn h⟩
theorem loc_alloc {W0 W' : World} {t : TypeId} (h0 : Bl W0 W') {p q : Int} {ng : Bool} {o1 : Option Addr} {l1 c1 : Nat} {o2 : Option Addr} {l2 c2 : Nat}
    (hf : Fr W' (.agg #[.bool ng, .slice o1 l1 c1, .slice o2 l2 c2]) p q) : LocFr W0 p q (.pointer (some ⟨W'.heap.size, 0, none⟩)) (W'.alloc (.cells #[.bool ng, .slice o1 l1 c1, .slice o2 l2 c2] t)) :=
  ⟨_, _, _, _, _, _, _, _, rfl, own3 rfl (Bl.refl _), hf.bl ((Bl.refl _).alloc _), h0.alloc _⟩
theorem fr_nz {w : World} {v0 v1 : Value} {p q : Int} (h : Fr w (.agg #[v0, v1, .slice none 0 0]) p q) : False := by
  obtain ⟨ng, a1, a2, a3, a4, a5, a6, he, h1, h2, h3, h4⟩ := h
  simp only [Value.agg.injEq, Array.mk.injEq, List.cons.injEq, Value.slice.injEq, and_true] at he
  obtain ⟨_, _, rfl, rfl, rfl⟩ := he
  obtain ⟨xs, ⟨o, c, e1, _⟩, g2, g3, rfl⟩ := h2
  simp only [Value.slice.injEq] at e1
  obtain ⟨_, e2, _⟩ := e1
  have : xs = [] := List.eq_nil_of_length_eq_zero e2.symm
  subst this
  simp [val] at h3
theorem al_le (va vb dt q N : Int) (_h4 : 0 ≤ va) (h5 : va ≤ vb) (h6 : vb ≤ 1000) (d0 : 0 ≤ dt) (q0 : 1 ≤ q) (_hN : 0 ≤ N) (hN2 : N ≤ dt * q) : va * dt * q + (vb - va) * N ≤ 1000 * dt * q := by
  have a1 : (vb - va) * N ≤ (vb - va) * (dt * q) := Int.mul_le_mul_of_nonneg_left hN2 (by omega)
  have a2 : vb * (dt * q) ≤ 1000 * (dt * q) := Int.mul_le_mul_of_nonneg_right h6 (Int.mul_nonneg d0 (by omega))
  have e1 : va * dt * q + (vb - va) * (dt * q) = vb * (dt * q) := by grind
  have e2 : 1000 * dt * q = 1000 * (dt * q) := by grind
  omega

set_option maxRecDepth 100000 in
set_option maxHeartbeats 12800000 in
theorem along_ref (b off cap : Nat) (l : List (Int × Int)) (v : Value) (p q : Int) (w : World) (hP : Pts w b off l) (hT : OkTab l) (hv : Fr w v p q) (p0 : 0 ≤ p) (p1 : p ≤ q) (q0 : 1 ≤ q) (q1 : q ≤ 36000000) :
    Calls Try.prog 54 #[.slice (some ⟨b, off, none⟩) l.length cap, v] w (PGood (tab (l[0]?.getD (0, 0)) (l.drop 1) p q).1 (tab (l[0]?.getD (0, 0)) (l.drop 1) p q).2 w) := by
  have HT := Lib.hid hT
  have hl2 := hT.two
  have hl20 := hT.most
  have TT := Lib.hid (fun w' v2 (g : Bl w w') (h : Fr w' v2 1000 1) => times_fr v v2 p q 1000 1 w' (hv.bl g) h (lt4 (by omega)).2.1 (lt4 (by omega)).2.1 (lt4 (by omega)).2.1 (lt4 (by omega)).2.1 (lt4 (by omega)).2.1 (lt4 (by omega)).2.2)
  have TW := Lib.hid (fun n (n0 : 0 ≤ n) (n1 : n ≤ 1000) w' => whole_any n w' (by omega) (by omega))
  obtain ⟨n1, o1, l1, c1, o2, l2, c2, rfl⟩ := hv.form
  have HP := Lib.hid (hP.bl (((Bl.refl w).alloc (.cells #[.bool n1, .slice o1 l1 c1, .slice o2 l2 c2] 49)).alloc (.cells #[.bool false, .slice none 0 0, .slice none 0 0] 49)))
  clear hP hT hv
  have hw2 : Bl w ((w.alloc (.cells #[.bool n1, .slice o1 l1 c1, .slice o2 l2 c2] 49)).alloc (.cells #[.bool false, .slice none 0 0, .slice none 0 0] 49)) := ((Bl.refl w).alloc _).alloc _
  go_enter Try.func54, Try.ntmps54
  go_upto_region 1 with fail
  go_cut [5] (fun s5 wx => LocFr ((w.alloc (.cells #[.bool n1, .slice o1 l1 c1, .slice o2 l2 c2] 49)).alloc (.cells #[.bool false, .slice none 0 0, .slice none 0 0] 49)) (p * 1000) q s5 wx)
  case first =>
    go_region_held3 (fun w' => w'.cell? ⟨w.heap.size, 0, none⟩ = some (.bool n1) ∧ w'.cell? ⟨w.heap.size, 1, none⟩ = some (.slice o1 l1 c1) ∧ w'.cell? ⟨w.heap.size, 2, none⟩ = some (.slice o2 l2 c2))
      (first
        | (refine own3 (t := 49) rfl (Bl.trans ((Bl.refl _).alloc (.cells #[.bool false, .slice none 0 0, .slice none 0 0] 49)) ?_); (repeat (first | with_reducible exact Bl.refl _ | with_reducible refine Bl.drew ?_ | with_reducible refine Bl.alloc ?_ _)); done)
        | (refine own3 (t := 49) rfl (Bl.trans ((Bl.refl _).alloc (.cells #[.bool false, .slice none 0 0, .slice none 0 0] 49)) (Bl.trans ?_ (Bl.trans g1 ?_))) <;> ((repeat (first | with_reducible exact Bl.refl _ | with_reducible refine Bl.drew ?_ | with_reducible refine Bl.alloc ?_ _)); done))
        | (refine own3 (t := 49) rfl (Bl.trans ((Bl.refl _).alloc (.cells #[.bool false, .slice none 0 0, .slice none 0 0] 49)) (Bl.trans ?_ (Bl.trans g1 (Bl.trans ?_ (Bl.trans g2 ?_))))) <;> ((repeat (first | with_reducible exact Bl.refl _ | with_reducible refine Bl.drew ?_ | with_reducible refine Bl.alloc ?_ _)); done))
        | (refine keep_three ?_ (own3 (t := 49) rfl (Bl.trans ((Bl.refl _).alloc (.cells #[.bool false, .slice none 0 0, .slice none 0 0] 49)) (Bl.trans ?_ (Bl.trans g1 (Bl.trans ?_ (Bl.trans g2 ?_)))))) _ _ _ <;> (first | omega | ((repeat (first | with_reducible exact Bl.refl _ | with_reducible refine Bl.drew ?_ | with_reducible refine Bl.alloc ?_ _)); done))))
      (first
        | (go_at_call 43; refine (TW.out 1000 (by omega) (by omega) _).mono ?_; rintro e w1 ⟨v1, rfl, h1, g1⟩; have H1 := Lib.hid h1; clear h1; have hs1 : w.heap.size < w1.heap.size := (by have := g1.size; simp at this; omega); (try (have hz1 := own3_third (w := w) (Bl.trans ((Bl.refl _).drew) g1))))
        | (go_at_call 44; refine (TT.out _ _ (by refine Bl.trans hw2 (Bl.trans ?_ (Bl.trans g1 ?_)) <;> ((repeat (first | with_reducible exact Bl.refl _ | with_reducible refine Bl.drew ?_ | with_reducible refine Bl.alloc ?_ _)); done)) (by refine H1.out.bl ?_; (repeat (first | with_reducible exact Bl.refl _ | with_reducible refine Bl.drew ?_ | with_reducible refine Bl.alloc ?_ _)); done)).mono ?_; rintro e w2 ⟨v2, rfl, h2, g2⟩; obtain ⟨n5, o5, l5, c5, o6, l6, c6, rfl⟩ := h2.form; have H2 := Lib.hid (fr_eq h2 rfl (show q * 1 = q by omega)); clear h2; (first | (have hz2 := own3_third (w := w) (Bl.trans ((Bl.refl _).drew) (Bl.trans g1 g2))) | (have hz2 := And.intro (own3 rfl g2) (own3f rfl g2)) | skip)))
    all_goals (go_wp2_with fail; go_meet)
    all_goals first
      | (refine loc_alloc ?_ H2.out; ((repeat (first | with_reducible exact Bl.refl _ | with_reducible assumption | with_reducible refine Bl.drew ?_ | with_reducible refine Bl.alloc ?_ _ | with_reducible refine Bl.trans ?_ (by assumption))); done))
      | (refine loc_set (t := 49) (W := w1) rfl g2 ?_ H2.out; ((repeat (first | with_reducible exact Bl.refl _ | with_reducible assumption | with_reducible refine Bl.drew ?_ | with_reducible refine Bl.alloc ?_ _ | with_reducible refine Bl.trans ?_ (by assumption))); done))
      | (refine loc_set (t := 49) (W := ((w.alloc (.cells #[.bool n1, .slice o1 l1 c1, .slice o2 l2 c2] 49)).alloc (.cells #[.bool false, .slice none 0 0, .slice none 0 0] 49))) (by simp) ?_ ?_ H2.out <;> ((repeat (first | with_reducible exact Bl.refl _ | with_reducible assumption | with_reducible refine Bl.drew ?_ | with_reducible refine Bl.alloc ?_ _ | with_reducible refine Bl.trans ?_ (by assumption))); done))
  case rest =>
    obtain ⟨b5, n5, o5, l5, c5, o6, l6, c6, rfl, ⟨y0, y1, y2⟩, hF5, hB⟩ := hcut
    have HP := Lib.hid (HP.out.bl hB)
    have HF5 := Lib.hid hF5
    have hW : Bl w wc := hw2.trans hB
    have HB := Lib.hid hB
    clear TT hF5 hB
    go_upto_region 3 with fail
    go_loopw [6] (fun v6 wr => AlR wc l p q v6 wr) (fun v6 _ => 20 - (intOf v6).toNat)
    case atStart => exact ⟨⟨1, by omega, by omega, rfl, rfl, fun h => by omega⟩, Bl.refl _⟩
    case round =>
      obtain ⟨⟨k, hk1, hk2, rfl, hT0, hlow⟩, hbr⟩ := hrel
      have HT0 := Lib.hid hT0
      have Hlow := Lib.hid hlow
      clear hT0 hlow
      obtain ⟨tb, vb, eb⟩ : ∃ tb vb, l[k]?.getD (0, 0) = (tb, vb) := ⟨_, _, rfl⟩
      obtain ⟨ta, va, ea⟩ : ∃ ta va, l[k - 1]?.getD (0, 0) = (ta, va) := ⟨_, _, rfl⟩
      obtain ⟨cb1, cb2⟩ := (HP.out.bl hbr) k hk2
      obtain ⟨ca1, ca2⟩ := (HP.out.bl hbr) (k - 1) (by omega)
      obtain ⟨tb0, tb1, vb0, vb1⟩ := HT.out.range k hk2
      obtain ⟨ta0, ta1, va0, va1⟩ := HT.out.range (k - 1) (by omega)
      obtain ⟨or1, or2⟩ := HT.out.order (k - 1) (by omega)
      have EB := Lib.hid eb
      rw [show k - 1 + 1 = k by omega, eb] at or1 or2
      rw [eb] at cb1 cb2 tb0 tb1 vb0 vb1
      rw [ea] at ca1 ca2 ta0 ta1 va0 va1 or1 or2
      simp only at cb1 cb2 tb0 tb1 vb0 vb1 ca1 ca2 ta0 ta1 va0 va1 or1 or2
      have EA := Lib.hid ea
      have hk3 : Hid (tb * q < 1000 * p → k + 1 < l.length) := fun hlt => by
        by_cases h : k + 1 < l.length
        · exact h
        · exfalso
          have h1 := HT.out.last
          rw [show l.length - 1 = k by omega, eb] at h1
          have h2 : tb = 1000 := congrArg Prod.fst h1
          rw [h2] at hlt
          omega
      have hlo : ta * q ≤ 1000 * p := by
        by_cases h2 : 2 ≤ k
        · have := Hlow.out h2; rw [ea] at this; simp only at this; omega
        · have h3 := HT.out.first
          obtain rfl : k = 1 := by omega
          rw [show 1 - 1 = 0 by omega] at ea
          rw [ea] at h3
          have : ta = 0 := congrArg Prod.fst h3
          rw [this]; omega
      have BD := Lib.hid (al_bd ta va tb vb p q ta0 or1 tb1 va0 or2 vb1 p1 q0 q1 hlo)
      have HLO := Lib.hid hlo
      have y0 := hbr.cell y0
      have y1 := hbr.cell y1
      have y2 := hbr.cell y2
      have HWr := Lib.hid (hW.trans hbr)
      have HF5r := Lib.hid (HF5.out.bl hbr)
      have hk0 : (1 : Int) ≤ (k : Int) := by omega
      have hkl : (k : Int) < (l.length : Int) := by omega
      obtain ⟨m, hm⟩ : ∃ m, m = k - 1 := ⟨_, rfl⟩
      have hkw : IntKind.i64.wrap ((k : Int) - 1) = (m : Int) := by rw [IntWalk.i64_in _ (by omega)]; omega
      rw [← hm] at ca1 ca2
      have hm0 : (0 : Int) ≤ (m : Int) := by omega
      have hml : (m : Int) < (l.length : Int) := by omega
      have HMk : Hid (m + 1 = k) := by show _ = _; omega
      clear hm ea eb hlo
      go_upto_region 5 with fail
      go_cut [7, 8] (fun s7 s8 wx => EndsB wr (ta, va) (tb, vb) s7 s8 wx)
      case first =>
        go_region_held3 (fun w' => w'.cell? ⟨b, off + m * 2, none⟩ = some (.int .i64 ta) ∧ w'.cell? ⟨b, off + m * 2 + 1, none⟩ = some (.int .i64 va) ∧ w'.cell? ⟨b, off + k * 2, none⟩ = some (.int .i64 tb) ∧ w'.cell? ⟨b, off + k * 2 + 1, none⟩ = some (.int .i64 vb))
          (refine ⟨Bl.cell (w := wr) ?_ ca1, Bl.cell (w := wr) ?_ ca2, Bl.cell (w := wr) ?_ cb1, Bl.cell (w := wr) ?_ cb2⟩ <;> ((repeat (first | with_reducible exact Bl.refl _ | with_reducible assumption | with_reducible refine Bl.drew ?_ | with_reducible refine Bl.alloc ?_ _ | with_reducible refine Bl.trans ?_ (by assumption))); done))
          (fail)
        all_goals (go_wp2_with fail; go_meet)
        all_goals refine ⟨_, _, rfl, rfl, ?_, ?_, ?_, ?_, ?_⟩
        all_goals first
          | (((repeat (first | with_reducible exact Bl.refl _ | with_reducible assumption | with_reducible refine Bl.drew ?_ | with_reducible refine Bl.alloc ?_ _ | with_reducible refine Bl.trans ?_ (by assumption))); done); done)
          | (rw [World.cell?_drew]; exact cell_alloc_sl _ (own2 (by simp)).1)
          | (rw [World.cell?_drew]; exact cell_alloc_sl _ (own2 (by simp)).2)
          | (rw [World.cell?_drew]; exact (own2 (by simp)).1)
          | (rw [World.cell?_drew]; exact (own2 (by simp)).2)
      case rest =>
        obtain ⟨ba, bb, rfl, rfl, hg, e1, e2, e3, e4⟩ := hcut
        have y0 := hg.cell y0
        have y1 := hg.cell y1
        have y2 := hg.cell y2
        have HF5x := Lib.hid (HF5r.out.bl hg)
        clear cb1 cb2 ca1 ca2
        have HW2 := Lib.hid (HWr.out.trans hg)
        have m0 : 0 ≤ tb * q := Int.mul_nonneg tb0 (by omega)
        have m1 : tb * q ≤ 1000 * q := Int.mul_le_mul_of_nonneg_right tb1 (by omega)
        by_cases hlt : tb * q < 1000 * p
        · have hc : 0 < cmpV (p * 1000 * 1) (tb * q) := by rw [cmpV_gt (by omega)]; omega
          have TO := fun w' v2 (g : Bl wc w') (h : Fr w' v2 tb 1) => order_fr _ v2 (p * 1000) q tb 1 w' (HF5x.out.bl g) h (lt4 (by omega)).2.1 (lt4 (by omega)).2.1 (lt4 (by omega)).2.1 (lt4 (by omega)).2.1 (lt4 (by omega)).2.1 (lt4 (by omega)).2.2
          unfold PCmp at TO
          generalize cmpV (p * 1000 * 1) (tb * q) = cv at *
          have TO := Lib.hid TO
          clear m0 m1
          go_upto_region 6 with fail
          go_region_held3 (fun w' => w'.cell? ⟨b5, 0, none⟩ = some (.bool n5) ∧ w'.cell? ⟨b5, 1, none⟩ = some (.slice o5 l5 c5) ∧ w'.cell? ⟨b5, 2, none⟩ = some (.slice o6 l6 c6) ∧ w'.cell? ⟨bb, 0, none⟩ = some (.int .i64 tb))
            (refine ⟨Bl.cell (w := wc) ?_ y0, Bl.cell (w := wc) ?_ y1, Bl.cell (w := wc) ?_ y2, Bl.cell (w := wc) ?_ e3⟩ <;> ((repeat (first | with_reducible exact Bl.refl _ | with_reducible assumption | with_reducible refine Bl.drew ?_ | with_reducible refine Bl.alloc ?_ _ | with_reducible refine Bl.trans ?_ (by assumption))); done))
            (first
              | (go_at_call 43; refine (TW.out tb (by omega) (by omega) _).mono ?_; rintro e w1 ⟨v1, rfl, h1, g1⟩; have H1 := Lib.hid h1; clear h1)
              | (go_at_call 53; refine (TO.out _ _ (by ((repeat (first | with_reducible exact Bl.refl _ | with_reducible assumption | with_reducible refine Bl.drew ?_ | with_reducible refine Bl.alloc ?_ _ | with_reducible refine Bl.trans ?_ (by assumption))); done)) H1.out).mono ?_; rintro e w2 ⟨rfl, g2⟩))
          all_goals go_wp2_with fail
          all_goals go_roundw
          case rel =>
            refine ⟨⟨k + 1, by omega, hk3.out hlt, by go_num, ?_, fun _ => ?_⟩, by ((repeat (first | with_reducible exact Bl.refl _ | with_reducible assumption | with_reducible refine Bl.drew ?_ | with_reducible refine Bl.alloc ?_ _ | with_reducible refine Bl.trans ?_ (by assumption))); done)⟩
            · have h1 := HT0.out
              rw [drop_one l k hk2, EB.out] at h1
              simp only [tab, if_pos hlt] at h1
              rw [← h1, Nat.add_sub_cancel, EB.out]
            · rw [Nat.add_sub_cancel, EB.out]; exact hlt
          case measure => simp [intOf]; omega
        · have HF : Hid (tab (l[0]?.getD (0, 0)) (l.drop 1) p q = (alN (ta, va) (tb, vb) p q, alD (ta, va) (tb, vb) q)) := by
            have h1 := HT0.out
            have h2 := EA.out
            rw [show k - 1 = m from by have := HMk.out; omega] at h1
            rw [show k - 1 = m from by have := HMk.out; omega] at h2
            rw [drop_one l k hk2, EB.out, h2] at h1
            simp only [tab, if_neg hlt] at h1
            exact h1.symm
          have hc : cmpV (p * 1000 * 1) (tb * q) ≤ 0 := by
            by_cases h : p * 1000 * 1 < tb * q
            · rw [cmpV_lt h]; omega
            · rw [show p * 1000 * 1 = tb * q by omega, cmpV_eq]; omega
          have TO := fun w' v2 (g : Bl wc w') (h : Fr w' v2 tb 1) => order_fr _ v2 (p * 1000) q tb 1 w' (HF5x.out.bl g) h (lt4 (by omega)).2.1 (lt4 (by omega)).2.1 (lt4 (by omega)).2.1 (lt4 (by omega)).2.1 (lt4 (by omega)).2.1 (lt4 (by omega)).2.2
          unfold PCmp at TO
          generalize cmpV (p * 1000 * 1) (tb * q) = cv at *
          have TO := Lib.hid TO
          have hlo := HLO.out
          obtain ⟨d1, d2, d3, d4, d5, d6, d7, d8, d9, d10, d11, d12⟩ := BD.out
          have hN2 : 1000 * p - ta * q ≤ (tb - ta) * q := by rw [Int.sub_mul]; omega
          have hle := al_le va vb (tb - ta) q (1000 * p - ta * q) va0 or2 vb1 d1 q0 (by omega) hN2
          have d13 : 0 ≤ q * (tb - ta) := Int.mul_nonneg (by omega) d1
          have d14 : q * (tb - ta) ≤ 36000000 * 1000 := Int.mul_le_mul q1 d2 d1 (by omega)
          have TM := Lib.hid (fun w' v2 (g : Bl wc w') (h : Fr w' v2 ta 1) => minus_fr _ v2 (p * 1000) q ta 1 w' (HF5x.out.bl g) h (lt4 (by omega)).2.1 (lt4 (by omega)).2.1 (lt4 (by omega)).2.1 (lt4 (by omega)).2.1 (lt4 (by omega)).2.1 (lt4 (by omega)).2.2)
          have TV := Lib.hid (fun w' v1 v2 (h1 : Fr w' v1 (1000 * p - ta * q) q) (h : Fr w' v2 (tb - ta) 1) => over_fr v1 v2 (1000 * p - ta * q) q (tb - ta) 1 w' h1 h (lt4 (by omega)).2.1 (lt4 (by omega)).2.1 (lt4 (by omega)).2.1 (lt4 (by omega)).2.1 (by omega) (lt4 (by omega)).2.1 (lt4 (by omega)).2.2)
          have TWa := Lib.hid (TW.out ta (by omega) (by omega))
          obtain ⟨dt, hdt0⟩ : ∃ dt, dt = tb - ta := ⟨_, rfl⟩
          have TWd : Hid (∀ w', Calls Try.prog 43 #[.int .i64 dt] w' (PFr (tb - ta) 1 w')) := by rw [hdt0]; exact (TW.out (tb - ta) (by omega) (by omega))
          have TWb := Lib.hid (TW.out tb (by omega) (by omega))
          have eM : Hid (p * 1000 * 1 - ta * q = 1000 * p - ta * q) := by show _ = _; omega
          have eQ : Hid (q * 1 = q) := by show _ = _; omega
          have eN : Hid ((1000 * p - ta * q) * 1 = 1000 * p - ta * q) := by show _ = _; omega
          have HGD : Hid (0 ≤ va ∧ va ≤ 1000 ∧ 0 ≤ vb - va ∧ vb - va ≤ 1000) := by show _ ∧ _ ∧ _ ∧ _; omega
          have HDD : Hid (0 ≤ (vb - va) * (1000 * p - ta * q) ∧ (vb - va) * (1000 * p - ta * q) ≤ 36000000000000 ∧ 0 ≤ va * (tb - ta) * q ∧ va * (tb - ta) * q ≤ 36000000000000 ∧ va * (tb - ta) * q + (vb - va) * (1000 * p - ta * q) ≤ 1000 * (tb - ta) * q ∧ 1 ≤ q * (tb - ta) ∧ q * (tb - ta) ≤ 36000000000 ∧ 0 ≤ 1000 * p - ta * q ∧ 1000 * p - ta * q ≤ 36000000000) := by
            have : 1 * 1 ≤ q * (tb - ta) := Int.mul_le_mul q0 (by omega) (by omega) (by omega)
            have : (tb - ta) * q ≤ 1000 * q := Int.mul_le_mul_of_nonneg_right d2 (by omega)
            show _ ∧ _ ∧ _ ∧ _ ∧ _ ∧ _ ∧ _ ∧ _ ∧ _
            omega
          have hdt : IntKind.i64.wrap (tb - ta) = dt := by rw [hdt0]; exact IntWalk.i64_in _ (by omega)
          clear hdt0
          clear m0 m1
          go_upto_region 6 with fail
          go_region_held3 (fun w' => w'.cell? ⟨b5, 0, none⟩ = some (.bool n5) ∧ w'.cell? ⟨b5, 1, none⟩ = some (.slice o5 l5 c5) ∧ w'.cell? ⟨b5, 2, none⟩ = some (.slice o6 l6 c6) ∧ w'.cell? ⟨bb, 0, none⟩ = some (.int .i64 tb))
            (refine ⟨Bl.cell (w := wc) ?_ y0, Bl.cell (w := wc) ?_ y1, Bl.cell (w := wc) ?_ y2, Bl.cell (w := wc) ?_ e3⟩ <;> ((repeat (first | with_reducible exact Bl.refl _ | with_reducible assumption | with_reducible refine Bl.drew ?_ | with_reducible refine Bl.alloc ?_ _ | with_reducible refine Bl.trans ?_ (by assumption))); done))
            (first
              | (go_at_call 43; refine (TWb.out _).mono ?_; rintro e w1 ⟨v1, rfl, h1, g1⟩; have H1 := Lib.hid h1; clear h1)
              | (go_at_call 53; refine (TO.out _ _ (by ((repeat (first | with_reducible exact Bl.refl _ | with_reducible assumption | with_reducible refine Bl.drew ?_ | with_reducible refine Bl.alloc ?_ _ | with_reducible refine Bl.trans ?_ (by assumption))); done)) H1.out).mono ?_; rintro e w2 ⟨rfl, g2⟩))
          clear d1 d2 d3 d4 d5 d6 d7 d8 d9 d10 d11 d12 d13 d14 hN2 hlo
          clear TO HT0 Hlow EB EA hk3 HP HT hlt hk0 hkl hkw hm0 hml HMk hle
          go_upto_region 7 with fail
          go_cut [9] (fun s9 wx => LocFr wc (1000 * p - ta * q) (q * (tb - ta)) s9 wx)
          case first =>
            go_region_held3 (fun w' => w'.cell? ⟨b5, 0, none⟩ = some (.bool n5) ∧ w'.cell? ⟨b5, 1, none⟩ = some (.slice o5 l5 c5) ∧ w'.cell? ⟨b5, 2, none⟩ = some (.slice o6 l6 c6) ∧ w'.cell? ⟨ba, 0, none⟩ = some (.int .i64 ta) ∧ w'.cell? ⟨bb, 0, none⟩ = some (.int .i64 tb))
              (refine ⟨Bl.cell (w := wc) ?_ y0, Bl.cell (w := wc) ?_ y1, Bl.cell (w := wc) ?_ y2, Bl.cell (w := wc) ?_ e1, Bl.cell (w := wc) ?_ e3⟩ <;> ((repeat (first | with_reducible exact Bl.refl _ | with_reducible assumption | with_reducible refine Bl.drew ?_ | with_reducible refine Bl.alloc ?_ _ | (with_reducible refine Bl.setCell ?_ ?hs _; (case hs => (exact Bl.size (by ((repeat (first | with_reducible exact Bl.refl _ | with_reducible assumption | with_reducible refine Bl.drew ?_ | with_reducible refine Bl.alloc ?_ _ | with_reducible refine Bl.trans ?_ (by assumption))); done))))) | with_reducible refine Bl.trans ?_ (by assumption))); done))
              (first
                | (go_at_call 43; simp only [hdt]; (with_reducible refine (TWd.out _).mono ?_); rintro e w4 ⟨v4, rfl, h4, g4⟩; have H4 := Lib.hid h4; clear h4)
                | (go_at_call 43; (with_reducible refine (TWa.out _).mono ?_); rintro e w3 ⟨v3, rfl, h3, g3⟩; have H3 := Lib.hid h3; clear h3)
                | (go_at_call 43; (with_reducible refine (TWd.out _).mono ?_); rintro e w4 ⟨v4, rfl, h4, g4⟩; have H4 := Lib.hid h4; clear h4)
                | (go_at_call 52; (with_reducible refine (TM.out _ _ (by ((repeat (first | with_reducible exact Bl.refl _ | with_reducible assumption | with_reducible refine Bl.drew ?_ | with_reducible refine Bl.alloc ?_ _ | with_reducible refine Bl.trans ?_ (by assumption))); done)) (H3.out.bl (by ((repeat (first | with_reducible exact Bl.refl _ | with_reducible assumption | with_reducible refine Bl.drew ?_ | with_reducible refine Bl.alloc ?_ _ | with_reducible refine Bl.trans ?_ (by assumption))); done)))).mono ?_); rintro e w5 ⟨v5, rfl, h5, g5⟩; have H5 := Lib.hid (fr_eq h5 eM.out eQ.out); clear h5)
                | (go_at_call 70; (with_reducible refine (TV.out _ _ _ (H5.out.bl (by ((repeat (first | with_reducible exact Bl.refl _ | with_reducible assumption | with_reducible refine Bl.drew ?_ | with_reducible refine Bl.alloc ?_ _ | with_reducible refine Bl.trans ?_ (by assumption))); done))) (H4.out.bl (by ((repeat (first | with_reducible exact Bl.refl _ | with_reducible assumption | with_reducible refine Bl.drew ?_ | with_reducible refine Bl.alloc ?_ _ | with_reducible refine Bl.trans ?_ (by assumption))); done)))).mono ?_); rintro e w6 ⟨v6, rfl, h6, g6⟩; obtain ⟨n7, o7, l7, c7, o8, l8, c8, rfl⟩ := h6.form; have H6 := Lib.hid (fr_eq h6 eN.out rfl); clear h6; (first | ((refine (fun (hzb : Bl (w2.alloc (.cells #[.bool false, .slice none 0 0, .slice none 0 0] 49)) w6) => ?_) ?_); rotate_left; (focus ((repeat (first | with_reducible exact Bl.refl _ | with_reducible assumption | with_reducible refine Bl.drew ?_ | with_reducible refine Bl.alloc ?_ _ | with_reducible refine Bl.trans ?_ (by assumption))); done)); (have hz := own3both rfl hzb); clear hzb) | ((refine (fun (hzb : Bl (w3.alloc (.cells #[.bool false, .slice none 0 0, .slice none 0 0] 49)) w6) => ?_) ?_); rotate_left; (focus ((repeat (first | with_reducible exact Bl.refl _ | with_reducible assumption | with_reducible refine Bl.drew ?_ | with_reducible refine Bl.alloc ?_ _ | with_reducible refine Bl.trans ?_ (by assumption))); done)); (have hz := own3both rfl hzb); clear hzb) | ((refine (fun (hzb : Bl (w4.alloc (.cells #[.bool false, .slice none 0 0, .slice none 0 0] 49)) w6) => ?_) ?_); rotate_left; (focus ((repeat (first | with_reducible exact Bl.refl _ | with_reducible assumption | with_reducible refine Bl.drew ?_ | with_reducible refine Bl.alloc ?_ _ | with_reducible refine Bl.trans ?_ (by assumption))); done)); (have hz := own3both rfl hzb); clear hzb) | ((refine (fun (hzb : Bl (w5.alloc (.cells #[.bool false, .slice none 0 0, .slice none 0 0] 49)) w6) => ?_) ?_); rotate_left; (focus ((repeat (first | with_reducible exact Bl.refl _ | with_reducible assumption | with_reducible refine Bl.drew ?_ | with_reducible refine Bl.alloc ?_ _ | with_reducible refine Bl.trans ?_ (by assumption))); done)); (have hz := own3both rfl hzb); clear hzb) | skip)))
            all_goals (go_wp2_with fail; go_meet)
            all_goals first
              | (refine loc_alloc ?_ H6.out; ((repeat (first | with_reducible exact Bl.refl _ | with_reducible assumption | with_reducible refine Bl.drew ?_ | with_reducible refine Bl.alloc ?_ _ | with_reducible refine Bl.trans ?_ (by assumption))); done))
              | (refine loc_set (t := 49) (W := w2) rfl ?_ ?_ H6.out <;> ((repeat (first | with_reducible exact Bl.refl _ | with_reducible assumption | with_reducible refine Bl.drew ?_ | with_reducible refine Bl.alloc ?_ _ | with_reducible refine Bl.trans ?_ (by assumption))); done))
              | (refine loc_set (t := 49) (W := w3) rfl ?_ ?_ H6.out <;> ((repeat (first | with_reducible exact Bl.refl _ | with_reducible assumption | with_reducible refine Bl.drew ?_ | with_reducible refine Bl.alloc ?_ _ | with_reducible refine Bl.trans ?_ (by assumption))); done))
              | (refine loc_set (t := 49) (W := w4) rfl ?_ ?_ H6.out <;> ((repeat (first | with_reducible exact Bl.refl _ | with_reducible assumption | with_reducible refine Bl.drew ?_ | with_reducible refine Bl.alloc ?_ _ | with_reducible refine Bl.trans ?_ (by assumption))); done))
              | (refine loc_set (t := 49) (W := w5) rfl ?_ ?_ H6.out <;> ((repeat (first | with_reducible exact Bl.refl _ | with_reducible assumption | with_reducible refine Bl.drew ?_ | with_reducible refine Bl.alloc ?_ _ | with_reducible refine Bl.trans ?_ (by assumption))); done))
          case rest =>
            obtain ⟨b9, n9, o9, l9, c9, o10, l10, c10, rfl, ⟨z0, z1, z2⟩, hF9, hB9⟩ := hcut
            have e1 := hB9.cell e1
            have e2 := hB9.cell e2
            have e4 := hB9.cell e4
            have HF9 := Lib.hid hF9
            clear hF9 TM TV TWa TWb TWd hdt
            obtain ⟨x1, x2, x3, x4, x5, x6, x7, x8, x9⟩ := HDD.out
            obtain ⟨x10, x11, x12, x13⟩ := HGD.out
            have x14 : 0 ≤ va * (q * (tb - ta)) ∧ va * (q * (tb - ta)) ≤ 36000000000000 := by
              have : va * (tb - ta) * q = va * (q * (tb - ta)) := by grind
              omega
            have TT := Lib.hid (fun w' v1 v2 (h1 : Fr w' v1 (vb - va) 1) (h : Fr w' v2 (1000 * p - ta * q) (q * (tb - ta))) => times_fr v1 v2 (vb - va) 1 (1000 * p - ta * q) (q * (tb - ta)) w' h1 h (lt4 (by omega)).2.1 (lt4 (by omega)).2.1 (lt4 (by omega)).2.1 (lt4 (by omega)).2.1 (lt4 (by omega)).2.1 (lt4 (by omega)).2.2)
            have TP := Lib.hid (fun w' v1 v2 (h1 : Fr w' v1 va 1) (h : Fr w' v2 ((vb - va) * (1000 * p - ta * q)) (q * (tb - ta))) => plus_fr v1 v2 va 1 ((vb - va) * (1000 * p - ta * q)) (q * (tb - ta)) w' h1 h (lt4 (by omega)).2.1 (lt4 (by omega)).2.1 (lt4 (by omega)).2.1 (lt4 (by omega)).2.1 (lt4 (by omega)).2.1 (lt4 (by omega)).2.2)
            have TV := Lib.hid (fun w' v1 v2 (h1 : Fr w' v1 (va * (q * (tb - ta)) + (vb - va) * (1000 * p - ta * q)) (q * (tb - ta))) (h : Fr w' v2 1000 1) => over_fr v1 v2 (va * (q * (tb - ta)) + (vb - va) * (1000 * p - ta * q)) (q * (tb - ta)) 1000 1 w' h1 h (lt4 (by omega)).2.1 (lt4 (by omega)).2.1 (lt4 (by omega)).2.1 (lt4 (by omega)).2.1 (by omega) (lt4 (by omega)).2.1 (lt4 (by omega)).2.2)
            have TWv := Lib.hid (TW.out va (by omega) (by omega))
            have TWk := Lib.hid (TW.out 1000 (by omega) (by omega))
            obtain ⟨dw, hdw0⟩ : ∃ dw, dw = vb - va := ⟨_, rfl⟩
            have TWd : Hid (∀ w', Calls Try.prog 43 #[.int .i64 dw] w' (PFr (vb - va) 1 w')) := by rw [hdw0]; exact (TW.out (vb - va) (by omega) (by omega))
            have q1e : Hid (1 * (q * (tb - ta)) = q * (tb - ta)) := by show _ = _; omega
            have q2e : Hid (va * (q * (tb - ta)) + (vb - va) * (1000 * p - ta * q) * 1 = va * (q * (tb - ta)) + (vb - va) * (1000 * p - ta * q)) := by show _ = _; omega
            have hG : Hid (∀ w' v', Fr w' v' ((va * (q * (tb - ta)) + (vb - va) * (1000 * p - ta * q)) * 1) (q * (tb - ta) * 1000) → GoodFr w' v' (tab (l[0]?.getD (0, 0)) (l.drop 1) p q).1 (tab (l[0]?.getD (0, 0)) (l.drop 1) p q).2) := fun w' v' h => by
              rw [HF.out]
              have : va * (tb - ta) * q = va * (q * (tb - ta)) := by grind
              have : 1000 * (tb - ta) * q = q * (tb - ta) * 1000 := by grind
              refine ⟨_, _, h, by omega, by omega, (lt4 (by omega)).1, ?_⟩
              show _ * (1000 * (tb - ta) * q) = (va * (tb - ta) * q + (vb - va) * (1000 * p - ta * q)) * _
              grind
            have hdw : IntKind.i64.wrap (vb - va) = dw := by rw [hdw0]; exact IntWalk.i64_in _ (by omega)
            have HBf := Lib.hid (((HB.out.trans hbr).trans hg).trans hB9)
            have hne9 : b9 ≠ w.heap.size + 1 := fun hh => by
              have kk := (own3 (n := w.heap.size + 1) (by simp) HBf.out).2.2
              rw [hh, kk] at z2
              simp only [Option.some.injEq, Value.slice.injEq] at z2
              obtain ⟨rfl, rfl, rfl⟩ := z2
              exact fr_nz HF9.out
            have hnea : ba ≠ w.heap.size + 1 := fun hh => own3_int (n := w.heap.size + 1) (by simp) HBf.out 1 va (by rw [← hh]; exact e2)
            have hneb : bb ≠ w.heap.size + 1 := fun hh => own3_int (n := w.heap.size + 1) (by simp) HBf.out 1 vb (by rw [← hh]; exact e4)
            clear hdw0 x1 x2 x3 x4 x5 x6 x7 x8 x9 x10 x11 x12 x13 x14 HF HDD HGD
            go_upto_region 8 with fail
            go_region_held3 (fun w' => w'.cell? ⟨b9, 0, none⟩ = some (.bool n9) ∧ w'.cell? ⟨b9, 1, none⟩ = some (.slice o9 l9 c9) ∧ w'.cell? ⟨b9, 2, none⟩ = some (.slice o10 l10 c10) ∧ w'.cell? ⟨ba, 1, none⟩ = some (.int .i64 va) ∧ w'.cell? ⟨bb, 1, none⟩ = some (.int .i64 vb))
              (first | (refine ⟨Bl.cell (w := wc) ?_ z0, Bl.cell (w := wc) ?_ z1, Bl.cell (w := wc) ?_ z2, Bl.cell (w := wc) ?_ e2, Bl.cell (w := wc) ?_ e4⟩ <;> ((repeat (first | with_reducible exact Bl.refl _ | with_reducible assumption | with_reducible refine Bl.drew ?_ | with_reducible refine Bl.alloc ?_ _ | with_reducible refine Bl.trans ?_ (by assumption))); done)) | (refine ⟨keep_set3b hne9 (Bl.cell (w := wc) ?_ z0) _ _ _, keep_set3b hne9 (Bl.cell (w := wc) ?_ z1) _ _ _, keep_set3b hne9 (Bl.cell (w := wc) ?_ z2) _ _ _, keep_set3b hnea (Bl.cell (w := wc) ?_ e2) _ _ _, keep_set3b hneb (Bl.cell (w := wc) ?_ e4) _ _ _⟩ <;> ((repeat (first | with_reducible exact Bl.refl _ | with_reducible assumption | with_reducible refine Bl.drew ?_ | with_reducible refine Bl.alloc ?_ _ | with_reducible refine Bl.trans ?_ (by assumption))); done)))
              (first
                | (go_at_call 43; simp only [hdw]; (with_reducible refine (TWd.out _).mono ?_); rintro e w4 ⟨v4, rfl, h4, g4⟩; have H4 := Lib.hid h4; clear h4)
                | (go_at_call 43; (with_reducible refine (TWv.out _).mono ?_); rintro e w3 ⟨v3, rfl, h3, g3⟩; have H3 := Lib.hid h3; clear h3)
                | (go_at_call 43; (with_reducible refine (TWd.out _).mono ?_); rintro e w4 ⟨v4, rfl, h4, g4⟩; have H4 := Lib.hid h4; clear h4)
                | (go_at_call 43; (with_reducible refine (TWk.out _).mono ?_); rintro e w7 ⟨v7, rfl, h7, g7⟩; have H7 := Lib.hid h7; clear h7)
                | (go_at_call 44; (with_reducible refine (TT.out _ _ _ (H4.out.bl (by ((repeat (first | with_reducible exact Bl.refl _ | with_reducible assumption | with_reducible refine Bl.drew ?_ | with_reducible refine Bl.alloc ?_ _ | with_reducible refine Bl.trans ?_ (by assumption))); done))) (HF9.out.bl (by ((repeat (first | with_reducible exact Bl.refl _ | with_reducible assumption | with_reducible refine Bl.drew ?_ | with_reducible refine Bl.alloc ?_ _ | with_reducible refine Bl.trans ?_ (by assumption))); done)))).mono ?_); rintro e w5 ⟨v5, rfl, h5, g5⟩; have H5 := Lib.hid (fr_eq h5 rfl q1e.out); clear h5)
                | (go_at_call 40; (with_reducible refine (TP.out _ _ _ (H3.out.bl (by ((repeat (first | with_reducible exact Bl.refl _ | with_reducible assumption | with_reducible refine Bl.drew ?_ | with_reducible refine Bl.alloc ?_ _ | with_reducible refine Bl.trans ?_ (by assumption))); done))) (H5.out.bl (by ((repeat (first | with_reducible exact Bl.refl _ | with_reducible assumption | with_reducible refine Bl.drew ?_ | with_reducible refine Bl.alloc ?_ _ | with_reducible refine Bl.trans ?_ (by assumption))); done)))).mono ?_); rintro e w6 ⟨v6, rfl, h6, g6⟩; have H6 := Lib.hid (fr_eq h6 q2e.out q1e.out); clear h6)
                | (go_at_call 70; (with_reducible refine (TV.out _ _ _ (H6.out.bl (by ((repeat (first | with_reducible exact Bl.refl _ | with_reducible assumption | with_reducible refine Bl.drew ?_ | with_reducible refine Bl.alloc ?_ _ | with_reducible refine Bl.trans ?_ (by assumption))); done))) (H7.out.bl (by ((repeat (first | with_reducible exact Bl.refl _ | with_reducible assumption | with_reducible refine Bl.drew ?_ | with_reducible refine Bl.alloc ?_ _ | with_reducible refine Bl.trans ?_ (by assumption))); done)))).mono ?_); rintro e w8 ⟨v8, rfl, h8, g8⟩; obtain ⟨n7, o7, l7, c7, o8, l8, c8, rfl⟩ := h8.form; have H8 := Lib.hid h8; clear h8; have HFin := Lib.hid (HBf.out.trans (show Bl wc w8 by ((repeat (first | with_reducible exact Bl.refl _ | with_reducible assumption | with_reducible refine Bl.drew ?_ | with_reducible refine Bl.alloc ?_ _ | with_reducible refine Bl.trans ?_ (by assumption))); done))); obtain ⟨r0, r1, r2⟩ := own3 (n := w.heap.size + 1) (by simp) HFin.out; obtain ⟨f0, f1, f2⟩ := own3f (n := w.heap.size + 1) (by simp) HFin.out))
            all_goals go_wp2_with fail
            all_goals refine bodyPost_ret (v := .agg #[.bool n7, .slice o7 l7 c7, .slice o8 l8 c8]) (by simp [results, Try.results54, go_sem, r0, r1, r2]) rfl ?_
            all_goals exact good_done (n := w.heap.size + 1) (by simp) HFin.out ((Bl.refl w).alloc _) (hG.out _ _ H8.out)
end Go.Proofs.Ytdienaigmkaheaa

/- The reference's Way along a table, and of all kinds of curves. -/
namespace Go.Proofs.Ytdienaigmkaheaa
open Go.RowKit

set_option maxRecDepth 100000 in
set_option maxHeartbeats 6400000 in
theorem way6 (b off cap : Nat) (l : List (Int × Int)) (v : Value) (p q : Int) (w : World) (hP : Pts w b off l) (hT : OkTab l) (hv : Fr w v p q) (p0 : 0 ≤ p) (p1 : p ≤ q) (q0 : 1 ≤ q) (q1 : q ≤ 36000000) :
    Calls Try.prog 31 #[.agg #[.int .i64 6, .slice (some ⟨b, off, none⟩) l.length cap], v] w (PGood (wN 6 l p q) (wD 6 l p q) w) := by
  have TA := fun w' (g : Bl w w') => along_ref b off cap l v p q w' (hP.bl g) hT (hv.bl g) p0 p1 q0 q1
  have hD : Hid ((tab (l[0]?.getD (0, 0)) (l.drop 1) p q).1 = wN 6 l p q ∧ (tab (l[0]?.getD (0, 0)) (l.drop 1) p q).2 = wD 6 l p q) := ⟨rfl, rfl⟩
  rw [hD.out.1, hD.out.2] at TA
  have TA := Lib.hid TA
  obtain ⟨n1, o1, l1, c1, o2, l2, c2, rfl⟩ := hv.form
  clear hv hP hT hD
  generalize wN 6 l p q = NN at *
  generalize wD 6 l p q = DD at *
  go_enter Try.func31, Try.ntmps31
  go_wp2_with fail
  refine (whole_any 1 _ (by omega) (by omega)).mono ?_
  rintro e w1 ⟨v1, rfl, h1, g1⟩
  obtain ⟨n3, o3, l3, c3, o4, l4, c4, rfl⟩ := h1.form
  have HONE := Lib.hid h1
  clear h1
  have hb := Bl.trans ((Bl.refl _).alloc _) g1
  have hz : w.heap.size + 1 + 1 < w1.heap.size := by have := g1.size; simp at this; omega
  have hz1 : w.heap.size + 1 < w1.heap.size := by omega
  have hz0 : w.heap.size < w1.heap.size := by omega
  obtain ⟨⟨k0, k1⟩, k2, k3, k4⟩ := own25 w _ _ _ _ _ _ _ hb
  go_wp2_with fail
  refine (TA.out _ (((((Bl.refl w).alloc _).alloc _).alloc _).trans (g1.alloc _))).mono ?_
  rintro e w2 ⟨v2, rfl, h2, g2⟩
  obtain ⟨n5, o5, l5, c5, o6, l6, c6, rfl⟩ := h2.form
  have H2 := Lib.hid h2
  clear h2
  have g3 := (g1.alloc (.cells #[.bool n3, .slice o3 l3 c3, .slice o4 l4 c4] 49)).trans g2
  obtain ⟨r0, r1, r2⟩ := own3 (n := w.heap.size + 1 + 1) (by simp) g3
  obtain ⟨f0, f1, f2⟩ := own3f (n := w.heap.size + 1 + 1) (by simp) g3
  go_wp2_with fail
  refine bodyPost_ret (v := .agg #[.bool n5, .slice o5 l5 c5, .slice o6 l6 c6]) (by simp [results, Try.results31, go_sem, r0, r1, r2]) rfl ?_
  exact good_done (n := w.heap.size + 1 + 1) (by simp) (g3) (((Bl.refl w).alloc _).alloc _) H2.out

/-- The way of a right curve, of whatever kind. -/
theorem way_any (k : Int) (sv : Value) (l : List (Int × Int)) (v : Value) (p q : Int) (w : World) (h : PtsAny w sv l) (hc : ckCurve k l = 0) (hv : Fr w v p q) (p0 : 0 ≤ p) (p1 : p ≤ q) (q0 : 1 ≤ q) (q1 : q ≤ 36000000) :
    Calls Try.prog 31 #[.agg #[.int .i64 k, sv], v] w (PGood (wN k l p q) (wD k l p q) w) := by
  have hC := curveAt_of h hc
  obtain ⟨o, n, cap, hsv⟩ : ∃ o n cap, sv = .slice o n cap := by
    rcases h with ⟨o, cap, rfl, rfl⟩ | ⟨b, off, cap, rfl, h2, h3⟩
    · exact ⟨_, _, _, rfl⟩
    · exact ⟨_, _, _, rfl⟩
  rcases kinds (curve_of hC) with rfl | rfl | rfl | rfl | rfl | rfl
  · exact way1 sv v o n cap hsv p q w hv p0 p1 q0 q1
  · exact way2 sv v o n cap hsv p q w hv p0 p1 q0 q1
  · exact way3 sv v o n cap hsv p q w hv p0 p1 q0 q1
  · exact way4 sv v o n cap hsv p q w hv p0 p1 q0 q1
  · by_cases hlt : p < q
    · exact way5a sv v o n cap hsv p q w hv p0 p1 q0 q1 hlt
    · exact way5b sv v o n cap hsv p q w hv p0 p1 q0 q1 (by omega)
  · obtain ⟨hT, b, off, cap, rfl, hP⟩ := hC.tab rfl
    exact way6 b off cap l v p q w hP hT hv p0 p1 q0 q1
end Go.Proofs.Ytdienaigmkaheaa

/- The row's last step, where it is known that nothing below the heap's size has turned. -/
namespace Go.Proofs.Ytdienaigmkaheaa
open Go.RowKit Go.ChangeShapes Go.WideShapes Go.ChangeAt
section
variable {H : Type} {enc : TypeId × Value → H} {P : Program}
/-- 'post' of a call that has changed nothing that was there, read again. -/
theorem post_of_old {f : Func} {s : ChangeSpec} {apart fresh handsOn again : Bool} {W W' : World} {args : Array Value} {v : Value} {ds gs : List (DataW H)} {before pa pv : List MemPlace}
    (hW : DataW.Whole enc P f.params.toList s.vars apart W args.toList ds gs before)
    (hres : ∀ (b : Nat) (sp : Nat → Bool) (hd : Bool), DataW.TrodAll enc P W' b sp hd f.resultTypes.toList (v.resultList f.resultTypes.size) (s.fn H (ds ++ gs)).results [])
    (hargs : ∀ sp : Nat → Bool, (∀ p ∈ before, sp p.block = true) → DataW.TrodAll enc P W' 0 sp true f.params.toList args.toList (s.fn H (ds ++ gs)).args pa)
    (hvars : ∀ sp : Nat → Bool, (∀ p ∈ before, sp p.block = true) → DataW.TrodVars enc P W' sp s.vars (s.fn H (ds ++ gs)).vars pv)
    (hps : before = pa ++ pv) (hg : Below W.heap.size W W')
    (hok : ∀ (j : Nat) (t : TypeId) (r : Value), f.resultTypes[j]? = some t → (v.resultList f.resultTypes.size)[j]? = some r → Value.okWide P W' .any 0 t r) :
    s.post enc P f apart fresh handsOn again W args v W' := by
  have old : ∀ p ∈ before, p.block < W.heap.size := fun p hp => hW.lt p hp
  have allowed : ∀ p ∈ before, (fun b => decide (b < W.heap.size)) p.block = true := fun p hp => by simpa using old p hp
  refine ⟨ds, gs, before, [], pa, pv, hW, hres _ _ _, hargs _ allowed, hvars _ allowed, World.keptBut_mono (fun p hp => ⟨hp, ?_⟩) (hg.frame (· ∈ before)), fun _ => ?_⟩
  · rw [hps, List.mem_append] at hp; exact Or.inr hp
  · obtain ⟨_, _, _, _, _, hz, hn⟩ := hW
    refine ⟨hok, _, _, ([] ++ pa) ++ pv, ⟨[] ++ pa, pv, trodAll_append (hargs _ (fun _ _ => rfl)) (hres _ _ _), hvars _ (fun _ _ => rfl), rfl, ?_, ?_⟩, ?_⟩
    · intro b off hp
      have hin : MemPlace.cell b off ∈ before := by rw [hps]; simpa using hp
      rw [hg.frozen (old _ hin)]
      exact hz b off hin
    · intro ha
      have := hn ha
      rw [hps] at this
      simpa using this
    · intro p hp _
      rw [hps]
      simpa using hp
theorem post_of_gr {f : Func} {s : ChangeSpec} {apart fresh handsOn again : Bool} {W W' : World} {args : Array Value} {v : Value} {ds gs : List (DataW H)} {before pa pv : List MemPlace}
    (hW : DataW.Whole enc P f.params.toList s.vars apart W args.toList ds gs before)
    (hres : ∀ (b : Nat) (sp : Nat → Bool) (hd : Bool), DataW.TrodAll enc P W' b sp hd f.resultTypes.toList (v.resultList f.resultTypes.size) (s.fn H (ds ++ gs)).results [])
    (hargs : ∀ sp : Nat → Bool, (∀ p ∈ before, sp p.block = true) → DataW.TrodAll enc P W' 0 sp true f.params.toList args.toList (s.fn H (ds ++ gs)).args pa)
    (hvars : ∀ sp : Nat → Bool, (∀ p ∈ before, sp p.block = true) → DataW.TrodVars enc P W' sp s.vars (s.fn H (ds ++ gs)).vars pv)
    (hps : before = pa ++ pv) (hg : Gr W W')
    (hok : ∀ (j : Nat) (t : TypeId) (r : Value), f.resultTypes[j]? = some t → (v.resultList f.resultTypes.size)[j]? = some r → Value.okWide P W' .any 0 t r) :
    s.post enc P f apart fresh handsOn again W args v W' := post_of_old hW hres hargs hvars hps hg.1 hok
end
end Go.Proofs.Ytdienaigmkaheaa

/- What all laws' proofs share: the row's last step, for a law that leaves what was there. -/
namespace Go.Proofs.Ytdienaigmkaheaa
open Go.RowKit Go.ChangeShapes Go.WideShapes Go.ChangeAt Go.Deep
section
variable {H : Type} {enc : TypeId × Value → H} {P : Program}

theorem trodAll_stays (hl : laidOutB P = true) {W W' : World} {sp : Nat → Bool} (hb : Below W.heap.size W W') : ∀ (ts : List TypeId) (vs : List Value) (ds : List (DataW H)) (p : List MemPlace),
    (∀ t ∈ ts, P.readableRec t = true ∧ t < P.types.size) → DataW.TrodAll enc P W 0 (fun _ => true) true ts vs ds p → (∀ x ∈ p, x.block < W.heap.size) → (∀ x ∈ p, sp x.block = true) →
    DataW.TrodAll enc P W' 0 sp true ts vs ds p
  | [], [], [], _, _, h, _, _ => h
  | t :: ts, v :: vs, d :: ds, p, hr, h, hlt, hs => by
    obtain ⟨p1, q1, h1, h2, rfl⟩ := h
    exact ⟨p1, q1, WideElems.Trod_stays hl (hr t (by simp)).1 (hr t (by simp)).2 h1 (fun x hx => hb.same (hlt x (by simp [hx]))) (fun x hx => hs x (by simp [hx])),
      trodAll_stays hl hb ts vs ds q1 (fun t ht => hr t (by simp [ht])) h2 (fun x hx => hlt x (by simp [hx])) (fun x hx => hs x (by simp [hx])), rfl⟩
  | [], [], _ :: _, _, _, h, _, _ => h.elim
  | [], _ :: _, _, _, _, h, _, _ => h.elim
  | _ :: _, [], _, _, _, h, _, _ => h.elim
  | _ :: _, _ :: _, [], _, _, h, _, _ => h.elim

/-- 'post' of a law that has answered true and has changed nothing that was there. -/
theorem law_old {f : Func} {s : ChangeSpec} {apart fresh handsOn again : Bool} {W W' : World} {args : Array Value} {ds gs : List (DataW H)} {before : List MemPlace} {tb : TypeId}
    (hW : DataW.Whole enc P f.params.toList s.vars apart W args.toList ds gs before) (hv : s.vars = []) (hs : s.fn H (ds ++ gs) = { results := [.lit (.bool true)], args := ds })
    (hr : f.resultTypes = #[tb]) (htb : P.underlying tb = some .bool) (hl : laidOutB P = true) (hp : (f.params.toList.all fun t => P.readableRec t && decide (t < P.types.size)) = true) (hg : Below W.heap.size W W') :
    s.post enc P f apart fresh handsOn again W args (.bool true) W' := by
  have hW0 := hW
  obtain ⟨p, q, hA, hV, hbef, _, _⟩ := hW0
  rw [hv] at hV
  obtain ⟨_, rfl⟩ := trodVars_none hV
  obtain rfl : before = p := by simpa using hbef
  refine post_of_old (pa := before) (pv := []) hW (fun b sp hd => ?_) (fun sp hsp => ?_) (fun sp hsp => ?_) (by simp) hg (ok_one hr rfl (okWide_bool_mk htb _))
  · rw [hs, hr]
    exact trodAll_cons_mk (shut_bool htb _) trodAll_mk0
  · rw [hs]
    exact trodAll_stays hl hg _ _ _ _ (fun t ht => by simpa using List.all_eq_true.1 hp t ht) hA (fun x hx => hW.lt x hx) hsp
  · rw [hs, hv]
    rfl
theorem law_post {f : Func} {s : ChangeSpec} {apart fresh handsOn again : Bool} {W W' : World} {args : Array Value} {ds gs : List (DataW H)} {before : List MemPlace} {tb : TypeId}
    (hW : DataW.Whole enc P f.params.toList s.vars apart W args.toList ds gs before) (hv : s.vars = []) (hs : s.fn H (ds ++ gs) = { results := [.lit (.bool true)], args := ds })
    (hr : f.resultTypes = #[tb]) (htb : P.underlying tb = some .bool) (hl : laidOutB P = true) (hp : (f.params.toList.all fun t => P.readableRec t && decide (t < P.types.size)) = true) (hg : Gr W W') :
    s.post enc P f apart fresh handsOn again W args (.bool true) W' := law_old hW hv hs hr htb hl hp hg.1
end
end Go.Proofs.Ytdienaigmkaheaa

/- Curves and fades that come in, opened. -/
namespace Go.Proofs.Ytdienaigmkaheaa
open Go.RowKit Go.ChangeShapes Go.WideShapes Go.ChangeAt Go.Deep
section
variable {H : Type} {enc : TypeId × Value → H} {w : World} {base : Nat} {spare : Nat → Bool} {held : Bool}

theorem cells2 : Try.prog.cellsOf 63 = 2 := by kernel_rfl
theorem cellsC : Try.prog.cellsOf 32 = 2 := by kernel_rfl
theorem cellsP : Try.prog.cellsOf 30 = 1 := by kernel_rfl
theorem cellsI : Try.prog.cellsOf 3 = 1 := by kernel_rfl

/-- An int of 64 bits. -/
def I64 (n : Int) : Prop := -9223372036854775808 ≤ n ∧ n ≤ 9223372036854775807
theorem i64_of {n : Int} (h : (Lit.int .i64 n).wf = true) : I64 n := by
  have := bounds_i64 h
  unfold I64
  omega
/-- Points whose numbers are ints. -/
def PtsWf (l : List (Int × Int)) : Prop := ∀ x ∈ l, I64 x.1 ∧ I64 x.2

set_option maxRecDepth 100000 in
theorem open_points {n : Nat} {v : Value} {y : DataW H × List MemPlace} (h : DataW.trod enc Try.prog w base spare held n 30 [v] = some y) : ∃ l, PtsAny w v l ∧ PtsWf l := by
  rcases open_slice Try.underlying30 h with ⟨hv, _⟩ | ⟨a, len, cap, m, n', D, Pl, hcs, _, hl, hm, hmm, _, hi⟩
  · obtain rfl : v = .slice none 0 0 := by simpa using hv
    exact ⟨[], Or.inl ⟨none, 0, rfl, rfl⟩, fun x hx => by cases hx⟩
  · obtain rfl : v = .slice (some a) len cap := by simpa using hcs
    have hle : len ≤ m := by rw [hmm]; split <;> omega
    have each : ∀ i, i < len → ∃ x : Int × Int, w.cell? (a.add (i * 2)) = some (.int .i64 x.1) ∧ w.cell? ((a.add (i * 2)).add 1) = some (.int .i64 x.2) ∧ I64 x.1 ∧ I64 x.2 := by
      intro i hil
      obtain ⟨cs', h1, h2⟩ := hi i (by omega)
      rw [cells2] at h1
      obtain ⟨_, hlen, hget⟩ := World.cells?_some h1
      obtain ⟨ys, n2, _, _, _, hyl, hf⟩ := DataW.trod_struct Try.underlying63 h2
      match cs', hlen with
      | [c0, c1], _ =>
        have f0 : DataW.trod enc Try.prog w base spare held n2 3 (([c0, c1].drop 0).take (Try.prog.cellsOf 3)) = ys[0]? := hf 0 _ rfl
        have f1 : DataW.trod enc Try.prog w base spare held n2 3 (([c0, c1].drop 1).take (Try.prog.cellsOf 3)) = ys[1]? := hf 1 _ rfl
        simp only [cellsI, List.drop_zero, List.take_succ_cons, List.take_zero, List.drop_succ_cons] at f0 f1
        have hyl2 : ys.length = 2 := hyl
        have y0 : ys[0]? = some (ys[0]'(by omega)) := List.getElem?_eq_getElem (by omega)
        have y1 : ys[1]? = some (ys[1]'(by omega)) := List.getElem?_eq_getElem (by omega)
        rw [y0] at f0
        rw [y1] at f1
        obtain ⟨z0, e0, _, w0⟩ := DataW.trod_int Try.underlying3 f0
        obtain ⟨z1, e1, _, w1⟩ := DataW.trod_int Try.underlying3 f1
        simp only [List.cons.injEq, and_true] at e0 e1
        subst e0 e1
        refine ⟨(z0, z1), ?_, ?_, i64_of w0, i64_of w1⟩
        · have := hget 0 (by omega); simpa [Addr.add] using this
        · exact hget 1 (by omega)
    obtain ⟨f, hf⟩ := choose_lt each
    rcases Nat.eq_zero_or_pos len with h0 | h0
    · subst h0
      exact ⟨[], Or.inl ⟨_, _, rfl, rfl⟩, fun x hx => by cases hx⟩
    · obtain ⟨b, off, spot⟩ := a
      have hspot : spot = none := by simpa [Addr.add] using World.cell?_spot (hf 0 h0).1
      subst hspot
      have hlen : ((List.range len).map f).length = len := by simp
      have hget : ∀ i, i < len → ((List.range len).map f)[i]?.getD (0, 0) = f i := fun i hi => by simp [hi]
      refine ⟨(List.range len).map f, Or.inr ⟨b, off, cap, by rw [hlen], fun i hi => ?_, by rw [hlen]; unfold maxLen at hm; omega⟩, fun x hx => ?_⟩
      · rw [hlen] at hi
        rw [hget i hi]
        obtain ⟨h1, h2, _, _⟩ := hf i hi
        rw [add_plain] at h1 h2
        rw [add_plain] at h2
        exact ⟨h1, h2⟩
      · obtain ⟨i, hi, rfl⟩ := List.mem_map.1 hx
        exact (hf i (List.mem_range.1 hi)).2.2

set_option maxRecDepth 100000 in
/-- The two cells of a curve. -/
theorem open_curve' {n : Nat} {cs : List Value} {y : DataW H × List MemPlace} (h : DataW.trod enc Try.prog w base spare held n 32 cs = some y) :
    ∃ (k : Int) (sv : Value) (l : List (Int × Int)), cs = [.int .i64 k, sv] ∧ I64 k ∧ PtsAny w sv l ∧ PtsWf l := by
  obtain ⟨ys, n2, _, _, hcl, hyl, hf⟩ := DataW.trod_struct Try.underlying32 h
  rw [cellsC] at hcl
  match cs, hcl with
  | [c0, c1], _ =>
    have f0 : DataW.trod enc Try.prog w base spare held n2 3 (([c0, c1].drop 0).take (Try.prog.cellsOf 3)) = ys[0]? := hf 0 _ rfl
    have f1 : DataW.trod enc Try.prog w base spare held n2 30 (([c0, c1].drop 1).take (Try.prog.cellsOf 30)) = ys[1]? := hf 1 _ rfl
    simp only [cellsI, cellsP, List.drop_zero, List.take_succ_cons, List.take_zero, List.drop_succ_cons] at f0 f1
    have hyl2 : ys.length = 2 := hyl
    have y0 : ys[0]? = some (ys[0]'(by omega)) := List.getElem?_eq_getElem (by omega)
    have y1 : ys[1]? = some (ys[1]'(by omega)) := List.getElem?_eq_getElem (by omega)
    rw [y0] at f0
    rw [y1] at f1
    obtain ⟨z0, e0, _, w0⟩ := DataW.trod_int Try.underlying3 f0
    simp only [List.cons.injEq, and_true] at e0
    subst e0
    obtain ⟨l, h1, h2⟩ := open_points f1
    exact ⟨z0, c1, l, rfl, i64_of w0, h1, h2⟩

set_option maxRecDepth 100000 in
theorem open_curve {r : Reach} {b0 : Nat} {v : Value} {d : DataW H} {p : List MemPlace} (hv : Value.okWide Try.prog w r b0 32 v) (h : DataW.Trod enc Try.prog w base spare held 32 v d p) :
    ∃ (k : Int) (sv : Value) (l : List (Int × Int)), v = .agg #[.int .i64 k, sv] ∧ I64 k ∧ PtsAny w sv l ∧ PtsWf l := by
  obtain ⟨cs, rfl, _⟩ := okWide_struct Try.underlying32 hv
  obtain ⟨n, hn⟩ := h
  obtain ⟨k, sv, l, h1, h2⟩ := open_curve' hn
  obtain ⟨cl⟩ := cs
  simp only [Value.cells] at h1
  subst h1
  exact ⟨k, sv, l, rfl, h2⟩
end
end Go.Proofs.Ytdienaigmkaheaa

namespace Go.Proofs.Ytdienaigmkaheaa.eases
open Go.ChangeShapes Go.WideShapes Go.ChangeAt Go.RowKit

set_option maxHeartbeats 1600000 in
theorem walk (k p q : Int) (sv : Value) (l : List (Int × Int)) (w : World) (h : PtsAny w sv l) :
    Calls Try.prog 4 #[.agg #[.int .i64 k, sv], .int .i64 p, .int .i64 q] w fun e w' => e = .returned (.bool true) ∧ Bl w w' := by
  have E1 := Lib.hid (fun w' (g : Bl w w') => ease_prog k l sv p q w' (h.bl g))
  have E2 := Lib.hid (fun w' (g : Bl w w') => ease_ref0 k l sv p q w' (h.bl g) (fun hc w'' v g' hv p0 p1 q0 q1 => way_any k sv l v p q w'' (h.bl (g.trans g')) hc hv p0 p1 q0 q1))
  obtain ⟨o, n, cap, hsv⟩ : ∃ o n cap, sv = .slice o n cap := by
    rcases h with ⟨o, cap, rfl, rfl⟩ | ⟨b, off, cap, rfl, h2, h3⟩
    · exact ⟨_, _, _, rfl⟩
    · exact ⟨_, _, _, rfl⟩
  clear h
  subst hsv
  generalize eaV k l p q = x1 at *
  generalize eaX k l p q = y1 at *
  go_enter Try.func4, Try.ntmps4
  go_wp2_with fail
  refine (E1.out _ ((Bl.refl w).alloc _)).mono ?_
  rintro e w1 ⟨rfl, g1⟩
  obtain ⟨k0, k1⟩ := box2 rfl g1.bl
  go_wp2_with fail
  refine (E2.out _ (((Bl.refl w).alloc _).trans g1.bl)).mono ?_
  rintro e w2 ⟨rfl, g2⟩
  go_wp2_with fail
  go_returns
  exact ⟨rfl, (((Bl.refl w).alloc _).trans g1.bl).trans g2⟩

theorem own : ownKnob Try.prog.godebug = none := by kernel_rfl
theorem laid : laidOutB Try.prog = true := by kernel_rfl

set_option maxRecDepth 100000 in
theorem lifted (os : Os) (started : os.Started) (H : Type) (enc : TypeId × Value → H) :
    ReturnsInHanded {} Try.checked os 4 .any (Rows.levelEasesMatchSpecSpec.pre6 enc Try.prog Try.f4 Rows.levelEasesMatchSpecRow.domain false) (Rows.levelEasesMatchSpecSpec.post enc Try.prog Try.f4 false true false false) := by
  refine returnsInHanded_of_change (C := Try.checked) own started (by kernel_rfl) Try.func4
    (ChangeSpec.witness6 (enc := enc) (C := Try.checked) false ⟨#[], #[.agg #[.int .i64 0, .slice none 0 0], .int .i64 0, .int .i64 0], []⟩ 8 (by kernel_rfl) (by kernel_rfl) (by kernel_rfl) (by kernel_rfl)) ?_
  intro W base args ds gs before hval0 hW hcnd _
  have hval : ∀ (j : Nat) t v, Try.f4.params[j]? = some t → args[j]? = some v → Value.okWide Try.prog W .any base t v := hval0
  have hW' := hW
  obtain ⟨p, q, hA0, hV, rfl, hfz, hnd⟩ := hW
  have hA : DataW.TrodAll enc Try.prog W 0 (fun _ => true) true Try.f4.params.toList args.toList ds p := hA0
  rw [Try.params4] at hA hval
  obtain ⟨v0, v1, v2, d0, d1, d2, p0, p1, p2, rfl, rfl, rfl, h0, h1, h2⟩ := trodAll_three hA
  obtain ⟨rfl, rfl⟩ := trodVars_none hV
  obtain ⟨k, sv, l, rfl, _, hp, _⟩ := open_curve (hval 0 32 v0 rfl rfl) h0
  obtain ⟨a1, rfl, rfl, rfl, w1⟩ := open_int Try.underlying3 (hval 1 3 v1 rfl rfl) h1
  obtain ⟨a2, rfl, rfl, rfl, w2⟩ := open_int Try.underlying3 (hval 2 3 v2 rfl rfl) h2
  clear hA0 hval0
  refine (walk k a1 a2 sv l W hp).mono fun e W' ⟨he, hg⟩ => ?_
  subst he
  exact ⟨_, rfl, law_old hW' rfl rfl (by kernel_rfl) Try.underlying4 laid (by kernel_rfl) hg⟩

theorem over : Rows.levelEasesMatchSpecRow.holds Try.pinned (OpenSpec.ofChange Rows.levelEasesMatchSpecSpec) :=
  OpenClaim.holds_of_wide 4 Try.f4 rfl rfl rfl rfl rfl rfl rfl ⟨rfl, rfl, rfl, rfl, rfl⟩ rfl rfl rfl rfl rfl (by kernel_rfl) Try.func4 (by kernel_rfl)
    (of_decide_eq_true (by kernel_rfl)) (by unfold Func.isWrapper; first | (rw [if_pos (by decide +kernel)]; kernel_rfl) | (rw [if_neg (by decide +kernel)]; exact ⟨rfl, rfl⟩))
    (fun os started H enc _ => lifted os started H enc)

/-- The statement. -/
theorem proved : Rows.LevelEasesMatchSpecSaid :=
  over
end Go.Proofs.Ytdienaigmkaheaa.eases
