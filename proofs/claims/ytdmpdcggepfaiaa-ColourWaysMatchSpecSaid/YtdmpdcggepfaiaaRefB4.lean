/- Between of the reference. -/
import Derived.Test.YtdmpdcggepfaiaaTwoT
namespace Go.Proofs.Ytdmpdcggepfaiaa
open Go.RowKit Go.Sort

set_option maxRecDepth 100000 in
set_option maxHeartbeats 6400000 in
theorem between_ref3_mid (k r g b x y z p q : Int) (w : World) (hab : (isCol r g b && isCol x y z) = true) (hk : k = 2 ∨ k = 3) (hp : isPt p q = true) (hp0 : p ≠ 0) (hpq : p ≠ q) :
    Calls Try.prog 17 #[.agg #[.int .i64 r, .int .i64 g, .int .i64 b], .agg #[.int .i64 x, .int .i64 y, .int .i64 z], .int .i64 k, .int .i64 p, .int .i64 q] w fun e w' =>
      e = .returned (.tuple #[.agg #[.int .i64 (btwC k r g b x y z p q).1, .int .i64 (btwC k r g b x y z p q).2.1, .int .i64 (btwC k r g b x y z p q).2.2], .int .i64 0]) ∧ Bl w w' := by
  have hC := fun w => both_ref3b r g b x y z w
  rw [hab] at hC
  have HC := Lib.hid hC
  have hab2 : isCol r g b = true ∧ isCol x y z = true := by simpa using hab
  obtain ⟨hr, hg, hb⟩ := isCol_iff.1 hab2.1
  obtain ⟨hx, hy, hz⟩ := isCol_iff.1 hab2.2
  have HT := Lib.hid (fun w => tone_ref r g b w hr hg hb)
  have HU := Lib.hid (fun w => tone_ref x y z w hx hy hz)
  have hc0 : Hid (btwC k r g b x y z p q = fromT (hueW (hueA (toneC r g b).1 (toneC r g b).2.1 (toneC x y z).1) (turnW k (toneC r g b).1 (toneC r g b).2.1 (toneC x y z).1 (toneC x y z).2.1) p q)
    (mxV (toneC r g b).2.1 (toneC x y z).2.1 p q) (mxV (toneC r g b).2.2 (toneC x y z).2.2 p q)) := by
    show _ = _; unfold btwC; rw [if_neg (by omega)]
  have t1 := tone_bd hr hg hb
  have t2 := tone_bd hx hy hz
  obtain ⟨q0, q1, p0, p1⟩ := isPt_iff.1 hp
  have HK := Lib.hid (fun w' (m : Bl (((w.alloc (.cells #[.int .i64 r, .int .i64 g, .int .i64 b] 23)).alloc (.cells #[.int .i64 x, .int .i64 y, .int .i64 z] 23)).alloc (.cells #[.int .i64 0, .int .i64 0, .int .i64 0] 23)) w') =>
    (show (Cel3 w' w.heap.size r g b ∧ Cel3 w' (w.heap.size + 1) x y z) ∧ Cel3 w' (w.heap.size + 1 + 1) 0 0 0 ∧ w'.frozen? ⟨w.heap.size + 1 + 1, 0, none⟩ = false ∧ w'.frozen? ⟨w.heap.size + 1 + 1, 1, none⟩ = false ∧ w'.frozen? ⟨w.heap.size + 1 + 1, 2, none⟩ = false from by
      obtain ⟨a, _⟩ := own3b (n := w.heap.size) rfl ((((Bl.refl (w.alloc (.cells #[.int .i64 r, .int .i64 g, .int .i64 b] 23))).alloc _).alloc _).trans m)
      obtain ⟨c, _⟩ := own3b (n := w.heap.size + 1) (by simp) (((Bl.refl ((w.alloc (.cells #[.int .i64 r, .int .i64 g, .int .i64 b] 23)).alloc (.cells #[.int .i64 x, .int .i64 y, .int .i64 z] 23))).alloc _).trans m)
      obtain ⟨d, f⟩ := own3b (n := w.heap.size + 1 + 1) (by simp) m
      exact ⟨⟨a, c⟩, d, f⟩))
  have h0 : Bl w (((w.alloc (.cells #[.int .i64 r, .int .i64 g, .int .i64 b] 23)).alloc (.cells #[.int .i64 x, .int .i64 y, .int .i64 z] 23)).alloc (.cells #[.int .i64 0, .int .i64 0, .int .i64 0] 23)) := (((Bl.refl w).alloc _).alloc _).alloc _
  clear hC hab hab2 hr hg hb hx hy hz hp
  generalize btwC k r g b x y z p q = C at *
  generalize toneC r g b = T at *
  generalize toneC x y z = U at *
  have W1 := Lib.hid (within_is k 1 3 true (by rcases hk with rfl | rfl <;> rfl))
  have W2 := Lib.hid (within_is q 1 36000000 true (by rw [decide_eq_true q0, decide_eq_true q1]; rfl))
  have W3 := Lib.hid (within_is p 0 q true (by rw [decide_eq_true p0, decide_eq_true p1]; rfl))
  have e1 : (p == 0) = false := by simpa using hp0
  have e2 : (p == q) = false := by simpa using hpq
  have e3 : (k == 1) = false := by rcases hk with rfl | rfl <;> rfl
  go_enter Try.func17, Try.ntmps17
  go_wp2_with fail
  refine (HC.out _).mono ?_
  rintro e w1 ⟨rfl, g1⟩
  go_wp2_with fail
  refine (W1.out _).mono ?_
  rintro e w' ⟨rfl, rfl⟩
  go_wp2_with fail
  refine (W2.out _).mono ?_
  rintro e w' ⟨rfl, rfl⟩
  go_wp2_with fail
  refine (W3.out _).mono ?_
  rintro e w' ⟨rfl, rfl⟩
  go_wp2_with fail
  have hs1 : w.heap.size + 3 ≤ w1.heap.size := by have := g1.size; simp at this; omega
  go_cut [19, 20] (fun s19 s20 wx => TwoT w1 T U s19 s20 wx)
  case first =>
    go_region_held3 (fun w' => w'.cell? ⟨w.heap.size, 0, none⟩ = some (.int .i64 r) ∧ w'.cell? ⟨w.heap.size, 1, none⟩ = some (.int .i64 g) ∧ w'.cell? ⟨w.heap.size, 2, none⟩ = some (.int .i64 b) ∧ w'.cell? ⟨w.heap.size + 1, 0, none⟩ = some (.int .i64 x) ∧ w'.cell? ⟨w.heap.size + 1, 1, none⟩ = some (.int .i64 y) ∧ w'.cell? ⟨w.heap.size + 1, 2, none⟩ = some (.int .i64 z))
      ((refine keep6 (HK.out _ ?_).1; ((repeat (first | with_reducible exact Bl.refl _ | with_reducible assumption | with_reducible refine Bl.drew ?_ | with_reducible refine Bl.alloc ?_ _ | (with_reducible refine Bl.setCell ?_ ?hs _; (case hs => (simp; omega))) | with_reducible refine Bl.trans ?_ (by assumption))); done)))
      (first
        | (go_at_call 19; (with_reducible refine (HT.out _).mono ?_); rintro e w2 ⟨rfl, g2⟩; have hs2 : w1.heap.size ≤ w2.heap.size := Bl.size (by ((repeat (first | with_reducible exact Bl.refl _ | with_reducible assumption | with_reducible refine Bl.drew ?_ | with_reducible refine Bl.alloc ?_ _ | with_reducible refine Bl.trans ?_ (by assumption))); done)); (try (refine (fun (me : Bl (w1.alloc (.cells #[.int .i64 0, .int .i64 0, .int .i64 0] 25)) w2) => ?_) ?_; rotate_left; (focus ((repeat (first | with_reducible exact Bl.refl _ | with_reducible assumption | with_reducible refine Bl.drew ?_ | with_reducible refine Bl.alloc ?_ _ | with_reducible refine Bl.trans ?_ (by assumption))); done)); have ze : w1.heap.size < w2.heap.size := World.block_lt_of_cell? _ _ (own3b (n := w1.heap.size) rfl me).1.1; have ye := Nat.ne_of_lt ze; have xe := Nat.ne_of_gt ze; clear me)); (try (refine (fun (mf : Bl ((w1.alloc (.cells #[.int .i64 0, .int .i64 0, .int .i64 0] 25)).alloc (.cells #[.int .i64 0, .int .i64 0, .int .i64 0] 25)) w2) => ?_) ?_; rotate_left; (focus ((repeat (first | with_reducible exact Bl.refl _ | with_reducible assumption | with_reducible refine Bl.drew ?_ | with_reducible refine Bl.alloc ?_ _ | with_reducible refine Bl.trans ?_ (by assumption))); done)); have zf : w1.heap.size + 1 < w2.heap.size := World.block_lt_of_cell? _ _ (own3b (n := w1.heap.size + 1) (by simp) mf).1.1; have yf := Nat.ne_of_lt zf; have xf := Nat.ne_of_gt zf; clear mf)))
        | (go_at_call 19; (with_reducible refine (HU.out _).mono ?_); rintro e w3 ⟨rfl, g3⟩; have hs3 : w2.heap.size ≤ w3.heap.size := Bl.size (by ((repeat (first | with_reducible exact Bl.refl _ | with_reducible assumption | with_reducible refine Bl.drew ?_ | with_reducible refine Bl.alloc ?_ _ | with_reducible refine Bl.trans ?_ (by assumption))); done)); (try (refine (fun (ma : Bl (w1.alloc (.cells #[.int .i64 0, .int .i64 0, .int .i64 0] 25)) w3) => ?_) ?_; rotate_left; (focus ((repeat (first | with_reducible exact Bl.refl _ | with_reducible assumption | with_reducible refine Bl.drew ?_ | with_reducible refine Bl.alloc ?_ _ | with_reducible refine Bl.trans ?_ (by assumption))); done)); obtain ⟨⟨ka0, ka1, ka2⟩, fa0, fa1, fa2⟩ := own3b (n := w1.heap.size) rfl ma; have za : w1.heap.size < w3.heap.size := World.block_lt_of_cell? _ _ ka0; have ya := Nat.ne_of_lt za; have xa := Nat.ne_of_gt za; clear ma)); (try (refine (fun (mb : Bl ((w1.alloc (.cells #[.int .i64 0, .int .i64 0, .int .i64 0] 25)).alloc (.cells #[.int .i64 0, .int .i64 0, .int .i64 0] 25)) w3) => ?_) ?_; rotate_left; (focus ((repeat (first | with_reducible exact Bl.refl _ | with_reducible assumption | with_reducible refine Bl.drew ?_ | with_reducible refine Bl.alloc ?_ _ | with_reducible refine Bl.trans ?_ (by assumption))); done)); obtain ⟨⟨kb0, kb1, kb2⟩, fb0, fb1, fb2⟩ := own3b (n := w1.heap.size + 1) (by simp) mb; have zb : w1.heap.size + 1 < w3.heap.size := World.block_lt_of_cell? _ _ kb0; have yb := Nat.ne_of_lt zb; have xb := Nat.ne_of_gt zb; clear mb)); (try (refine (fun (mc : Bl (w2.alloc (.cells #[.int .i64 0, .int .i64 0, .int .i64 0] 25)) w3) => ?_) ?_; rotate_left; (focus ((repeat (first | with_reducible exact Bl.refl _ | with_reducible assumption | with_reducible refine Bl.drew ?_ | with_reducible refine Bl.alloc ?_ _ | with_reducible refine Bl.trans ?_ (by assumption))); done)); obtain ⟨⟨kc0, kc1, kc2⟩, fc0, fc1, fc2⟩ := own3b (n := w2.heap.size) rfl mc; have zc : w2.heap.size < w3.heap.size := World.block_lt_of_cell? _ _ kc0; have yc := Nat.ne_of_lt zc; have xc := Nat.ne_of_gt zc; clear mc)); (try (refine (fun (md : Bl ((w2.alloc (.cells #[.int .i64 0, .int .i64 0, .int .i64 0] 25)).alloc (.cells #[.int .i64 0, .int .i64 0, .int .i64 0] 25)) w3) => ?_) ?_; rotate_left; (focus ((repeat (first | with_reducible exact Bl.refl _ | with_reducible assumption | with_reducible refine Bl.drew ?_ | with_reducible refine Bl.alloc ?_ _ | with_reducible refine Bl.trans ?_ (by assumption))); done)); obtain ⟨⟨kd0, kd1, kd2⟩, fd0, fd1, fd2⟩ := own3b (n := w2.heap.size + 1) (by simp) md; have zd : w2.heap.size + 1 < w3.heap.size := World.block_lt_of_cell? _ _ kd0; have yd := Nat.ne_of_lt zd; have xd := Nat.ne_of_gt zd; clear md))))
    all_goals (go_wp2_with fail; go_meet)
    all_goals first
      | ((with_reducible refine two_aa ?_); ((repeat (first | with_reducible exact Bl.refl _ | with_reducible assumption | with_reducible refine Bl.drew ?_ | with_reducible refine Bl.alloc ?_ _ | with_reducible refine Bl.trans ?_ (by assumption))); done))
      | ((with_reducible refine two_aa' ?_); ((repeat (first | with_reducible exact Bl.refl _ | with_reducible assumption | with_reducible refine Bl.drew ?_ | with_reducible refine Bl.alloc ?_ _ | with_reducible refine Bl.trans ?_ (by assumption))); done))
      | ((with_reducible refine two_sa ?_ ?_ ?_ ?_) <;> first | (with_reducible assumption) | ((with_reducible refine cel0 ?_ ?_ ?_) <;> with_reducible assumption) | (((repeat (first | with_reducible exact Bl.refl _ | with_reducible assumption | with_reducible refine Bl.drew ?_ | with_reducible refine Bl.alloc ?_ _ | with_reducible refine Bl.trans ?_ (by assumption))); done); done) | omega)
      | ((with_reducible refine two_as ?_ ?_ ?_ ?_) <;> first | (with_reducible assumption) | ((with_reducible refine cel0 ?_ ?_ ?_) <;> with_reducible assumption) | (((repeat (first | with_reducible exact Bl.refl _ | with_reducible assumption | with_reducible refine Bl.drew ?_ | with_reducible refine Bl.alloc ?_ _ | with_reducible refine Bl.trans ?_ (by assumption))); done); done) | omega)
      | ((with_reducible refine two_ss ?_ ?_ ?_ ?_ ?_ ?_ ?_ ?_) <;> first | (with_reducible assumption) | ((with_reducible refine cel0 ?_ ?_ ?_) <;> with_reducible assumption) | (((repeat (first | with_reducible exact Bl.refl _ | with_reducible assumption | with_reducible refine Bl.drew ?_ | with_reducible refine Bl.alloc ?_ _ | with_reducible refine Bl.trans ?_ (by assumption))); done); done) | omega)
  case rest =>
    obtain ⟨b1, b2, rfl, rfl, ⟨l1, l2, hne⟩, ⟨c1, c2⟩, ⟨f1, f2⟩, hB⟩ := hcut
    have hne' : b2 ≠ b1 := Ne.symm hne
    obtain ⟨c10, c11, c12⟩ := c1
    obtain ⟨c20, c21, c22⟩ := c2
    go_upto_if 97 with fail
    go_cut [97] (fun _ wx => (Cel3 wx b1 (hueA T.1 T.2.1 U.1) T.2.1 T.2.2 ∧ Cel3 wx b2 (hueB T.1 T.2.1 U.1 U.2.1) U.2.1 U.2.2) ∧ Bl w1 wx)
    case first =>
      by_cases hs : T.2.1 = 0
      · have t1 : (T.2.1 == 0) = true := by simpa using hs
        have e : Hid (hueA T.1 T.2.1 U.1 = U.1 ∧ hueB T.1 T.2.1 U.1 U.2.1 = U.1) := by
          have x1 : hueA T.1 T.2.1 U.1 = U.1 := by unfold hueA; rw [if_pos hs]
          exact ⟨x1, by unfold hueB; rw [x1]; split <;> rfl⟩
        clear hs
        go_wp2_with fail
        go_meet
        exact ⟨⟨by rw [e.out.1]; exact ⟨sam c10, (oth (by decide)).trans c11, (oth (by decide)).trans c12⟩, by rw [e.out.2]; exact Cel3.far ⟨c20, c21, c22⟩ hne _⟩, hB.setCell l1 _⟩
      · have t1 : (T.2.1 == 0) = false := by simpa using hs
        have x1 : Hid (hueA T.1 T.2.1 U.1 = T.1) := by show _ = _; unfold hueA; rw [if_neg hs]
        by_cases hu : U.2.1 = 0
        · have t2 : (U.2.1 == 0) = true := by simpa using hu
          have e : Hid (hueB T.1 T.2.1 U.1 U.2.1 = T.1) := by show _ = _; unfold hueB; rw [if_pos hu, x1.out]
          clear hs hu
          go_wp2_with fail
          go_meet
          exact ⟨⟨by rw [x1.out]; exact Cel3.far ⟨c10, c11, c12⟩ hne' _, by rw [e.out]; exact ⟨sam c20, (oth (by decide)).trans c21, (oth (by decide)).trans c22⟩⟩, hB.setCell l2 _⟩
        · have t2 : (U.2.1 == 0) = false := by simpa using hu
          have e : Hid (hueB T.1 T.2.1 U.1 U.2.1 = U.1) := by show _ = _; unfold hueB; rw [if_neg hu]
          clear hs hu
          go_wp2_with fail
          go_meet
          exact ⟨⟨by rw [x1.out]; exact ⟨c10, c11, c12⟩, by rw [e.out]; exact ⟨c20, c21, c22⟩⟩, hB⟩
    case rest =>
      obtain ⟨⟨d1, d2⟩, hB2⟩ := hcut
      clear c10 c11 c12 c20 c21 c22 f1 f2 hB
      have hAb := hueA_bd (s1 := T.2.1) t1.1.1 t1.1.2 t2.1.1 t2.1.2
      have hBb : 0 ≤ hueB T.1 T.2.1 U.1 U.2.1 ∧ hueB T.1 T.2.1 U.1 U.2.1 ≤ 393209 := by unfold hueB; have := hAb; have := t2.1; split <;> omega
      have htb := turnW_bd k T.1 T.2.1 U.1 U.2.1
      have HTu := Lib.hid (fun w => turn_ref (hueA T.1 T.2.1 U.1) (hueB T.1 T.2.1 U.1 U.2.1) k w hAb.1 hAb.2 hBb.1 hBb.2 hk)
      rw [show (if k = 2 then shortT ((hueB T.1 T.2.1 U.1 U.2.1 - hueA T.1 T.2.1 U.1 + 393210) % 393210) else longT ((hueB T.1 T.2.1 U.1 U.2.1 - hueA T.1 T.2.1 U.1 + 393210) % 393210)) = turnW k T.1 T.2.1 U.1 U.2.1 from rfl] at HTu
      have hC0 := hc0.out
      generalize turnW k T.1 T.2.1 U.1 U.2.1 = t at *
      generalize hueA T.1 T.2.1 U.1 = hA at *
      generalize hueB T.1 T.2.1 U.1 U.2.1 = hB at *
      obtain ⟨⟨n0, n1⟩, ⟨n2, n3⟩, n4, n5⟩ := hue_small (h := hA) (t := t) hAb.1 hAb.2 htb.1 htb.2 q0 q1 p0 p1
      have Q1 := Lib.hid (fun w => whole_any hA w (by omega) (by omega))
      have Q2 := Lib.hid (fun w => whole_any t w (by omega) (by omega))
      have Q3 := Lib.hid (fun w => part_any p q w p0 (by omega) (by omega) (by omega))
      have Q4 := Lib.hid (fun w va vb (ha : Fr w va t 1) (hb : Fr w vb p q) => times_fr va vb t 1 p q w ha hb (lt55 (by omega)) (lt55 (by omega)) (lt55 (by omega)) (lt55 (by omega)) (lt55 (by omega)) (lt6 (by omega)))
      rw [Int.one_mul] at Q4
      have Q5 := Lib.hid (fun w va vb (ha : Fr w va hA 1) (hb : Fr w vb (t * p) q) => plus_fr va vb hA 1 (t * p) q w ha hb (lt55 (by omega)) (lt55 (by omega)) (lt55 (by omega)) (lt55 (by omega)) (lt55 (by omega)) (lt6 (by omega)))
      rw [Int.one_mul, Int.mul_one] at Q5
      have Q6 := Lib.hid (fun w va (ha : Fr w va (hA * q + t * p) q) => round_fr va (hA * q + t * p) q w ha (lt55 (by omega)) (lt55 (by omega)) (lt55 (by omega)) (lt6 (by omega)) (by
        have : ((((hA * q + t * p) * 2 + 1 * q).natAbs : Int) / (q * 2)) ≤ (((hA * q + t * p) * 2 + 1 * q).natAbs : Int) := Int.ediv_le_self _ (by omega)
        omega))
      rw [rd_eq] at Q6
      have Q7 := Lib.hid (fun w => modulo_ref (rdv (hA * q + t * p) q) w (by omega) (by omega))
      rw [hueW_ref q0] at Q7
      have Q8 := Lib.hid (fun w => mix_ref2 T.2.1 U.2.1 p q w)
      have Q9 := Lib.hid (fun w => mix_ref2 T.2.2 U.2.2 p q w)
      have m1 := mxV_bd (a := T.2.1) (b := U.2.1) (p := p) (q := q)
      have m2 := mxV_bd (a := T.2.2) (b := U.2.2) (p := p) (q := q)
      have hu : 0 ≤ hueW hA t p q ∧ hueW hA t p q ≤ 393209 := by unfold hueW; omega
      have Q0 := Lib.hid (fun w => from3_ref (hueW hA t p q) (mxV T.2.1 U.2.1 p q) (mxV T.2.2 U.2.2 p q) w hu.1 hu.2 m1.1 m1.2 m2.1 m2.2)
      rw [← hC0] at Q0
      generalize rdv (hA * q + t * p) q = R at *
      generalize hueW hA t p q = Hh at *
      generalize mxV T.2.1 U.2.1 p q = Sa at *
      generalize mxV T.2.2 U.2.2 p q = Va at *
      generalize mxX T.2.1 U.2.1 p q = Sx at *
      generalize mxX T.2.2 U.2.2 p q = Vx at *
      have D1 := Lib.hid d1
      have D2 := Lib.hid d2
      clear hC0 m1 m2 hu hAb hBb htb n0 n1 n2 n3 n4 n5 t1 t2 d1 d2 hc0 HT HU HC W1 W2 W3
      go_wp2_with fail
      go_region_held3 (fun w' => w'.cell? ⟨b1, 0, none⟩ = some (.int .i64 hA) ∧ w'.cell? ⟨b2, 0, none⟩ = some (.int .i64 hB))
        ((refine ⟨Bl.cell ?_ D1.out.1, Bl.cell ?_ D2.out.1⟩ <;> ((repeat (first | with_reducible exact Bl.refl _ | with_reducible assumption | with_reducible refine Bl.drew ?_ | with_reducible refine Bl.alloc ?_ _ | with_reducible refine Bl.trans ?_ (by assumption))); done)))
        (first
          | (go_at_call 34; (with_reducible refine (Q1.out _).mono ?_); rintro e wa ⟨va, rfl, ha, ga⟩; have Ha := Lib.hid ha; clear ha)
          | (go_at_call 36; (with_reducible refine (HTu.out _).mono ?_); rintro e w' ⟨rfl, rfl⟩)
          | (go_at_call 34; (with_reducible refine (Q2.out _).mono ?_); rintro e wb ⟨vb, rfl, hb, gb⟩; have Hb := Lib.hid hb; clear hb)
          | (go_at_call 38; (with_reducible refine (Q3.out _).mono ?_); rintro e wd ⟨vd, rfl, hd, gd⟩; have Hd := Lib.hid hd; clear hd)
          | (go_at_call 37; ((with_reducible refine (Q4.out _ _ _ (Hb.out.bl ?_) (Hd.out.bl ?_)).mono ?_); (focus ((repeat (first | with_reducible exact Bl.refl _ | with_reducible assumption | with_reducible refine Bl.drew ?_ | with_reducible refine Bl.alloc ?_ _ | with_reducible refine Bl.trans ?_ (by assumption))); done)); (focus ((repeat (first | with_reducible exact Bl.refl _ | with_reducible assumption | with_reducible refine Bl.drew ?_ | with_reducible refine Bl.alloc ?_ _ | with_reducible refine Bl.trans ?_ (by assumption))); done)); rintro e we ⟨ve, rfl, he, ge⟩; have He := Lib.hid he; clear he))
          | (go_at_call 35; ((with_reducible refine (Q5.out _ _ _ (Ha.out.bl ?_) (He.out.bl ?_)).mono ?_); (focus ((repeat (first | with_reducible exact Bl.refl _ | with_reducible assumption | with_reducible refine Bl.drew ?_ | with_reducible refine Bl.alloc ?_ _ | with_reducible refine Bl.trans ?_ (by assumption))); done)); (focus ((repeat (first | with_reducible exact Bl.refl _ | with_reducible assumption | with_reducible refine Bl.drew ?_ | with_reducible refine Bl.alloc ?_ _ | with_reducible refine Bl.trans ?_ (by assumption))); done)); rintro e wf ⟨vf, rfl, hf, gf⟩; have Hf := Lib.hid hf; clear hf))
          | (go_at_call 39; ((with_reducible refine (Q6.out _ _ (Hf.out.bl ?_)).mono ?_); (focus ((repeat (first | with_reducible exact Bl.refl _ | with_reducible assumption | with_reducible refine Bl.drew ?_ | with_reducible refine Bl.alloc ?_ _ | with_reducible refine Bl.trans ?_ (by assumption))); done)); rintro e wg ⟨rfl, gg⟩)))
      all_goals
        have hg : Bl wc wg := by ((repeat (first | with_reducible exact Bl.refl _ | with_reducible assumption | with_reducible refine Bl.drew ?_ | with_reducible refine Bl.alloc ?_ _ | with_reducible refine Bl.trans ?_ (by assumption))); done)
        have hwg : w1.heap.size ≤ wg.heap.size := (hB2.trans hg).size
        obtain ⟨a0, a1, a2⟩ := D1.out.bl hg
        obtain ⟨c0, c1, c2⟩ := D2.out.bl hg
        have y1 : b1 < wg.heap.size := World.block_lt_of_cell? _ _ a0
        have y2 : b2 < wg.heap.size := World.block_lt_of_cell? _ _ c0
        have y3 : w.heap.size + 1 + 1 < wg.heap.size := by omega
        clear ga gb gd ge gf gg
        go_wp2_with fail
        refine (Q7.out _).mono ?_
        rintro e w' ⟨rfl, rfl⟩
        go_wp2_with fail
        refine (Q8.out _).mono ?_
        rintro e wh ⟨rfl, gh⟩
        obtain ⟨⟨k0, k1, k2⟩, f0, f1, f2⟩ := own3b (n := wg.heap.size) rfl gh
        have ggh : Bl wg wh := ((Bl.refl wg).alloc _).trans gh
        clear a0 a1 a2 c0 c1 c2
        obtain ⟨a0, a1, a2⟩ := D1.out.bl (hg.trans ggh)
        obtain ⟨c0, c1, c2⟩ := D2.out.bl (hg.trans ggh)
        have n1 : b1 ≠ wg.heap.size := Nat.ne_of_lt y1
        have n1' : wg.heap.size ≠ b1 := Nat.ne_of_gt y1
        have n2 : b2 ≠ wg.heap.size := Nat.ne_of_lt y2
        have n2' : wg.heap.size ≠ b2 := Nat.ne_of_gt y2
        go_wp2_with fail
        refine (Q9.out _).mono ?_
        rintro e wi ⟨rfl, gi⟩
        have e0 : wi.cell? ⟨wg.heap.size, 0, none⟩ = some (.int .i64 Hh) := gi.cell ((oth (by decide)).trans k0)
        have e1 : wi.cell? ⟨wg.heap.size, 1, none⟩ = some (.int .i64 Sa) := gi.cell (sam k1)
        have e2 : wi.cell? ⟨wg.heap.size, 2, none⟩ = some (.int .i64 0) := gi.cell ((oth (by decide)).trans k2)
        have hz : wg.heap.size < wh.heap.size := World.block_lt_of_cell? _ _ k0
        have e3 : wi.frozen? ⟨wg.heap.size, 2, none⟩ = false := by rw [gi.frozen (by simpa using hz)]; simpa using f2
        clear a0 a1 a2 c0 c1 c2 k0 k1 k2 f0 f1 f2
        go_wp2_with fail
        refine (Q0.out _).mono ?_
        rintro e wj ⟨rfl, gj⟩
        have hfin : Bl (((w.alloc (.cells #[.int .i64 r, .int .i64 g, .int .i64 b] 23)).alloc (.cells #[.int .i64 x, .int .i64 y, .int .i64 z] 23)).alloc (.cells #[.int .i64 0, .int .i64 0, .int .i64 0] 23)) wj := by
          have hx : Bl (((w.alloc (.cells #[.int .i64 r, .int .i64 g, .int .i64 b] 23)).alloc (.cells #[.int .i64 x, .int .i64 y, .int .i64 z] 23)).alloc (.cells #[.int .i64 0, .int .i64 0, .int .i64 0] 23)) wh := (g1.trans hB2).trans (hg.trans ggh)
          have hx2 := (hx.setCell (p := ⟨wg.heap.size, 1, none⟩) (by simp; omega) (.int .i64 Sa)).trans gi
          exact (hx2.setCell (p := ⟨wg.heap.size, 2, none⟩) (by simp; omega) (.int .i64 Va)).trans gj
        obtain ⟨_, ⟨k0, k1, k2⟩, f0, f1, f2⟩ := HK.out _ hfin
        go_wp2_with fail
        refine bodyPost_ret (v := .tuple #[.agg #[.int .i64 C.1, .int .i64 C.2.1, .int .i64 C.2.2], .int .i64 0]) ?_ rfl ⟨rfl, ?_⟩
        · simp [results, Try.results17, go_sem, k0, k1, k2]
        · exact set3b (by omega) (h0.trans hfin) _ _ _
end Go.Proofs.Ytdmpdcggepfaiaa
