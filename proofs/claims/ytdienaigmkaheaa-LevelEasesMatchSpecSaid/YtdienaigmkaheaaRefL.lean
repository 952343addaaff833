/- The reference: mix. -/
import Derived.Test.YtdienaigmkaheaaFrO
import Derived.Test.YtdienaigmkaheaaBetween
import Derived.Test.YtdienaigmkaheaaLev
import Derived.Test.YtdienaigmkaheaaWithI
namespace Go.Proofs.Ytdienaigmkaheaa
open Go.RowKit

/-- What 'mix' gives. -/
def mixV (a b p q : Int) : Int := rdF (a * (1 * q) + (b - a) * p * 1) (1 * (1 * q))
theorem rd_rnd {n d s : Int} : rdF (s * n) d = rnd n d s := by
  unfold rdF rnd; congr 1 <;> grind
theorem rd_add {a p q : Int} (hq : 0 < q) : rdF (a * q + p) q = a + rdF p q := by
  unfold rdF
  have e : (a * q + p) * 2 + 1 * q = (p * 2 + 1 * q) + (q * 2) * a := by grind
  rw [e, Int.add_mul_ediv_left _ _ (by omega)]; omega
theorem mix_btw {a b p q N D : Int} (hq : 0 < q) (hD : 0 < D) (h : p * D = N * q) : mixV a b p q = btw N D a b := by
  unfold mixV btw
  by_cases hlt : b < a
  · rw [if_pos hlt]
    have e1 : a * (1 * q) + (b - a) * p * 1 = b * q + (a - b) * (q - p) := by grind
    have e2 : 1 * (1 * q) = q := by omega
    rw [e1, e2, rd_add hq, rd_rnd]
    congr 1
    refine rnd_congr hq hD (by omega) ?_
    have : (q - p) * D = q * D - p * D := by grind
    have e4 : (D - N) * q = q * D - N * q := by grind
    omega
  · rw [if_neg hlt]
    have e1 : a * (1 * q) + (b - a) * p * 1 = a * q + (b - a) * p := by grind
    have e2 : 1 * (1 * q) = q := by omega
    rw [e1, e2, rd_add hq, rd_rnd]
    congr 1
    exact rnd_congr hq hD (by omega) h

/-- The numbers that 'mix' computes with are not too great. -/
theorem mix_bd {a b p q : Int} (a0 : 0 ≤ a) (a1 : a ≤ 65535) (b0 : 0 ≤ b) (b1 : b ≤ 65535) (p0 : 0 ≤ p) (p1 : p ≤ q) (q0 : 0 < q) (_q1 : q < pw 4) :
    (((b - a) * p).natAbs : Int) ≤ 65535 * q ∧ ((a * (1 * q) + (b - a) * p * 1).natAbs : Int) ≤ 131070 * q ∧ (((a * (1 * q) + (b - a) * p * 1) * 2 + 1 * (1 * (1 * q))).natAbs : Int) ≤ 262141 * q ∧ (((a * (1 * q) + (b - a) * p * 1) * 2 + 1 * (1 * (1 * q))).natAbs : Int) / (1 * (1 * q) * 2) ≤ 1000000000000000000 := by
  have h1 : (((b - a) * p).natAbs : Int) ≤ 65535 * q := by
    rw [Int.natAbs_mul, Int.natCast_mul]
    exact Int.mul_le_mul (by omega) (by omega) (by omega) (by omega)
  have h2 : a * (1 * q) = a * q := by grind
  have h3 : 0 ≤ a * q ∧ a * q ≤ 65535 * q := ⟨Int.mul_nonneg a0 (by omega), Int.mul_le_mul_of_nonneg_right a1 (by omega)⟩
  rw [h2]
  refine ⟨h1, by omega, by omega, ?_⟩
  have : (((a * q + (b - a) * p * 1) * 2 + 1 * (1 * (1 * q))).natAbs : Int) / (1 * (1 * q) * 2) < 262142 := Int.ediv_lt_of_lt_mul (by omega) (by omega)
  omega

set_option maxRecDepth 100000 in
set_option maxHeartbeats 6400000 in
theorem mix_ref (a b : Int) (v : Value) (p q : Int) (w : World) (hv : Fr w v p q) (a0 : 0 ≤ a) (a1 : a ≤ 65535) (b0 : 0 ≤ b) (b1 : b ≤ 65535) (p0 : 0 ≤ p) (p1 : p ≤ q) (q1 : q < pw 4) :
    Calls Try.prog 26 #[.int .i64 a, .int .i64 b, v] w fun e w' => e = .returned (.int .i64 (mixV a b p q)) ∧ Bl w w' := by
  have q0 : 0 < q := by obtain ⟨_, _, _, _, _, _, _, _, _, _, h, _⟩ := hv; exact h
  obtain ⟨m1, m2, m3, m4⟩ := mix_bd a0 a1 b0 b1 p0 p1 q0 q1
  have e5 : (1000000000 : Int) < pw 5 ∧ pw 5 = 1000000000 * pw 4 ∧ pw 6 = 1000000000 * pw 5 := ⟨by decide, by rw [← pw_succ], by rw [← pw_succ]⟩
  have TW := Lib.hid (fun n (n0 : -65535 ≤ n) (n1 : n ≤ 65535) w' => whole_any n w' (by omega) (by omega))
  have TT := Lib.hid (fun w' v1 (g : Bl w w') (h : Fr w' v1 (b - a) 1) => times_fr v1 v (b - a) 1 p q w' h (hv.bl g) (by omega) (by omega) (by omega) (by omega) (by omega) (by omega))
  have TP := Lib.hid (fun w' v1 v2 (h1 : Fr w' v1 a 1) (h2 : Fr w' v2 ((b - a) * p) (1 * q)) => plus_fr v1 v2 a 1 ((b - a) * p) (1 * q) w' h1 h2 (by omega) (by omega) (by omega) (by omega) (by omega) (by omega))
  have TR := Lib.hid (fun w' v1 (h1 : Fr w' v1 (a * (1 * q) + (b - a) * p * 1) (1 * (1 * q))) => round_fr v1 _ _ w' h1 (by omega) (by omega) (by omega) (by omega) m4)
  obtain ⟨n1, o1, l1, c1, o2, l2, c2, rfl, _, _, _, _⟩ := hv
  have hab : IntKind.i64.wrap (b - a) = b - a := IntWalk.i64_in _ (by omega)
  have hr1 : -65535 ≤ a ∧ -65535 ≤ b - a ∧ b - a ≤ 65535 := by omega
  clear m1 m2 m3 m4 e5 q1 p0 p1
  have hw1 : Bl w (w.alloc (.cells #[.bool n1, .slice o1 l1 c1, .slice o2 l2 c2] 49)) := (Bl.refl w).alloc _
  go_enter Try.func26, Try.ntmps26
  go_wp2_with fail
  go_region_held3 (fun w' => w'.cell? ⟨w.heap.size, 0, none⟩ = some (.bool n1) ∧ w'.cell? ⟨w.heap.size, 1, none⟩ = some (.slice o1 l1 c1) ∧ w'.cell? ⟨w.heap.size, 2, none⟩ = some (.slice o2 l2 c2))
    (exact own3 (t := 49) rfl (by (first | ((repeat (first | with_reducible exact Bl.refl _ | with_reducible refine Bl.drew ?_)); done) | (refine Bl.trans ?_ g1; (repeat (first | with_reducible exact Bl.refl _ | with_reducible refine Bl.drew ?_)); done) | (refine Bl.trans ?_ (Bl.trans g1 g2); (repeat (first | with_reducible exact Bl.refl _ | with_reducible refine Bl.drew ?_)); done) | (refine Bl.trans ?_ (Bl.trans g1 (Bl.trans g2 g3)); (repeat (first | with_reducible exact Bl.refl _ | with_reducible refine Bl.drew ?_)); done) | (refine Bl.trans ?_ (Bl.trans g1 (Bl.trans g2 (Bl.trans g3 g4))); (repeat (first | with_reducible exact Bl.refl _ | with_reducible refine Bl.drew ?_)); done) | (refine Bl.trans ?_ (Bl.trans g1 (Bl.trans g2 (Bl.trans g3 (Bl.trans g4 g5)))); (repeat (first | with_reducible exact Bl.refl _ | with_reducible refine Bl.drew ?_)); done))))
    (first
      | (go_at_call 43; ((with_reducible refine (TW.out a hr1.1 a1 _).mono ?_); rintro e w1 ⟨v1, rfl, h1, g1⟩; have H1 := Lib.hid h1; clear h1))
      | (go_at_call 43; ((with_reducible refine (TW.out (b - a) hr1.2.1 hr1.2.2 _).mono ?_); rintro e w2 ⟨v2, rfl, h2, g2⟩; have H2 := Lib.hid h2; clear h2))
      | (go_at_call 44; ((with_reducible refine (TT.out _ _ ?_ H2.out).mono ?_); (focus (refine Bl.trans hw1 (Bl.trans ?_ (Bl.trans g1 g2)); (repeat (first | with_reducible exact Bl.refl _ | with_reducible refine Bl.drew ?_)); done)); rintro e w3 ⟨v3, rfl, h3, g3⟩; have H3 := Lib.hid h3; clear h3))
      | (go_at_call 40; refine (TP.out _ _ _ (by exact H1.out.bl (g2.trans g3)) (by exact H3.out)).mono ?_; rintro e w5 ⟨v5, rfl, h5, g4⟩; have H5 := Lib.hid h5; clear h5)
      | (go_at_call 22; refine (TR.out _ _ (by exact H5.out)).mono ?_; rintro e w6 ⟨rfl, g5⟩))
  go_wp2_with fail
  go_returns
  exact ⟨ret_i (by unfold mixV; simp), hw1.drew.trans (g1.trans (g2.trans (g3.trans (g4.trans g5))))⟩
end Go.Proofs.Ytdienaigmkaheaa
