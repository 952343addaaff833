/- Ways between colours: a journey around the circle is called; journeyBy. -/
import Derived.Test.YtdmpdcggepfaiaaWayE
namespace Go.Proofs.Ytdmpdcggepfaiaa
open Go.RowKit Go.Sort

theorem btw_bd {p q a b : Int} (q0 : 0 < q) (p0 : 0 ≤ p) (p1 : p ≤ q) (a0 : 0 ≤ a) (a1 : a ≤ 65535) (b0 : 0 ≤ b) (b1 : b ≤ 65535) : 0 ≤ btw p q a b ∧ btw p q a b ≤ 65535 := by
  unfold btw
  split
  · have h1 := rnd_nonneg (n := q - p) (d := q) (s := a - b) q0 (by omega) (by omega)
    have h2 := rnd_le (n := q - p) (d := q) (s := a - b) q0 (by omega) (by omega)
    omega
  · have h1 := rnd_nonneg (n := p) (d := q) (s := b - a) q0 (by omega) (by omega)
    have h2 := rnd_le (n := p) (d := q) (s := b - a) q0 (by omega) (by omega)
    omega
theorem mxV_bd {a b p q : Int} : 0 ≤ mxV a b p q ∧ mxV a b p q ≤ 65535 := by
  unfold mxV
  split
  · rename_i h
    unfold mxB at h
    rw [Bool.and_eq_true, Bool.and_eq_true, isLev_iff, isLev_iff, isPt_iff] at h
    obtain ⟨⟨⟨a0, a1⟩, b0, b1⟩, q0, _, p0, p1⟩ := h
    exact btw_bd (by omega) p0 p1 a0 a1 b0 b1
  · omega

/-- The hue on the way. -/
def hueW (h t p q : Int) : Int := rdv ((393210 + h) * q + t * p) q % 393210
theorem turn_bd {h t p q : Int} (h0 : 0 ≤ h) (h1 : h ≤ 393209) (t0 : -393210 ≤ t) (t1 : t ≤ 393210) (q0 : 1 ≤ q) (q1 : q ≤ 36000000) (p0 : 0 ≤ p) (p1 : p ≤ q) :
    (0 ≤ (393210 + h) * q ∧ (393210 + h) * q ≤ 28311084000000) ∧ (-14155560000000 ≤ t * p ∧ t * p ≤ 14155560000000) ∧ 0 ≤ (393210 + h) * q + t * p := by
  have a1 := Int.mul_le_mul (show 393210 + h ≤ 786419 by omega) q1 (by omega) (by omega)
  have a2 := Int.mul_le_mul_of_nonneg_right (show 393210 ≤ 393210 + h by omega) (show 0 ≤ q by omega)
  have a3 := Int.mul_le_mul_of_nonneg_right t0 p0
  have a4 := Int.mul_le_mul_of_nonneg_right t1 p0
  omega

set_option maxRecDepth 100000 in
set_option maxHeartbeats 3200000 in
theorem around_call (h s v h' s' v' t p q : Int) (bf bt bo : Nat) (w : World) (h0 : 0 ≤ h) (h1 : h ≤ 393209) (t0 : -393210 ≤ t) (t1 : t ≤ 393210) (hpq : isPt p q = true)
    (c1 : Cel3 w bf h s v) (c2 : w.cell? ⟨bt, 0, none⟩ = some (.int .i64 t)) (c3 : Cel3 w bo h' s' v') :
    Calls Try.prog 73 #[.int .i64 p, .int .i64 q, .pointer (some ⟨bf, 0, none⟩), .pointer (some ⟨bt, 0, none⟩), .pointer (some ⟨bo, 0, none⟩)] w fun e w' =>
      e = .returned (.agg #[.int .i64 (fromT (hueW h t p q) (mxV s s' p q) (mxV v v' p q)).1, .int .i64 (fromT (hueW h t p q) (mxV s s' p q) (mxV v v' p q)).2.1, .int .i64 (fromT (hueW h t p q) (mxV s s' p q) (mxV v v' p q)).2.2]) ∧ Gr w w' := by
  obtain ⟨q0, q1, p0, p1⟩ := isPt_iff.1 hpq
  obtain ⟨⟨b1, b2⟩, ⟨b3, b4⟩, b5⟩ := turn_bd h0 h1 t0 t1 q0 q1 p0 p1
  have HR := Lib.hid (fun w => rounded_any ((393210 + h) * q + t * p) q w b5 (by omega) q0 (by omega))
  have r0 : 0 ≤ rdv ((393210 + h) * q + t * p) q := le_rdv (by omega) (by omega)
  have w0 : IntKind.i64.wrap ((393210 + h) * q) = (393210 + h) * q := IntWalk.i64_in _ (by omega)
  have w1 : IntKind.i64.wrap (t * p) = t * p := IntWalk.i64_in _ (by omega)
  have m1 := mxV_bd (a := s) (b := s') (p := p) (q := q)
  have m2 := mxV_bd (a := v) (b := v') (p := p) (q := q)
  have hu : 0 ≤ hueW h t p q ∧ hueW h t p q ≤ 393209 := by unfold hueW; omega
  have HF := Lib.hid (fun w => fromTone_any (hueW h t p q) (mxV s s' p q) (mxV v v' p q) w hu.1 hu.2 m1.1 m1.2 m2.1 m2.2)
  have HM1 := Lib.hid (fun w => mix_col s s' p q w)
  have HM2 := Lib.hid (fun w => mix_col v v' p q w)
  have HK := Lib.hid (fun w' (g : Gr w w') => (show w'.cell? ⟨bf, 1, none⟩ = some (.int .i64 s) ∧ w'.cell? ⟨bf, 2, none⟩ = some (.int .i64 v) ∧ w'.cell? ⟨bo, 1, none⟩ = some (.int .i64 s') ∧ w'.cell? ⟨bo, 2, none⟩ = some (.int .i64 v') from ⟨(c1.gr g).2.1, (c1.gr g).2.2, (c3.gr g).2.1, (c3.gr g).2.2⟩))
  have hz : bf < w.heap.size := World.block_lt_of_cell? _ _ c1.1
  have hz2 : bt < w.heap.size := World.block_lt_of_cell? _ _ c2
  have c10 := c1.1
  unfold hueW at *
  clear c1 c3 m1 m2 hu hpq
  generalize mxV s s' p q = x at *
  generalize mxV v v' p q = y at *
  obtain ⟨T, hT⟩ : ∃ T, T = fromT (rdv ((393210 + h) * q + t * p) q % 393210) x y := ⟨_, rfl⟩
  rw [← hT] at HF ⊢
  clear hT
  go_enter Try.func73, Try.ntmps73
  go_wp2_with ((with_reducible refine (HR.out _).mono ?_); rintro e w' ⟨rfl, rfl⟩)
  go_region_held3 (fun w' => w'.cell? ⟨bf, 1, none⟩ = some (.int .i64 s) ∧ w'.cell? ⟨bf, 2, none⟩ = some (.int .i64 v) ∧ w'.cell? ⟨bo, 1, none⟩ = some (.int .i64 s') ∧ w'.cell? ⟨bo, 2, none⟩ = some (.int .i64 v'))
    ((refine HK.out _ ?_; (first | (((repeat (first | with_reducible exact Gr.refl _ | with_reducible assumption | with_reducible refine Gr.drew ?_ | with_reducible refine Gr.alloc ?_ _ | with_reducible refine Gr.trans ?_ (by assumption))); done); done) | (refine set3g (Nat.le_refl _) ?_ _ _ _; ((repeat (first | with_reducible exact Gr.refl _ | with_reducible assumption | with_reducible refine Gr.drew ?_ | with_reducible refine Gr.alloc ?_ _ | with_reducible refine Gr.trans ?_ (by assumption))); done)))))
    (first
      | (go_at_call 72; (with_reducible refine (HM1.out _).mono ?_); rintro e w1 ⟨rfl, g1⟩)
      | (go_at_call 72; (with_reducible refine (HM2.out _).mono ?_); rintro e w2 ⟨rfl, g2⟩)
      | (go_at_call 21; (with_reducible refine (HF.out _).mono ?_); rintro e w3 ⟨rfl, g3⟩; obtain ⟨⟨k0, k1, k2⟩, f0, f1, f2⟩ := own3g (W := w) (W' := w3) (n := w.heap.size) (a := .int .i64 0) (b := .int .i64 0) (c := .int .i64 0) (t := 23) rfl (by ((repeat (first | with_reducible exact Gr.refl _ | with_reducible assumption | with_reducible refine Gr.drew ?_ | with_reducible refine Gr.alloc ?_ _ | with_reducible refine Gr.trans ?_ (by assumption))); done))))
  all_goals
    go_wp2_with fail
    refine bodyPost_ret (v := .agg #[.int .i64 T.1, .int .i64 T.2.1, .int .i64 T.2.2]) ?_ rfl ⟨rfl, ?_⟩
    · simp [results, Try.results73, go_sem, k0, k1, k2]
    · exact set3g (Nat.le_refl _) (by ((repeat (first | with_reducible exact Gr.refl _ | with_reducible assumption | with_reducible refine Gr.drew ?_ | with_reducible refine Gr.alloc ?_ _ | with_reducible refine Gr.trans ?_ (by assumption))); done)) _ _ _
end Go.Proofs.Ytdmpdcggepfaiaa
