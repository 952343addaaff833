/- LevelFadesMatchSpec is proved: CheckFade, At, Ends and Reach answer as the reference does, for all fades, times and levels, with no condition. -/
import Derived.Test.YtdnipbeggcfnbaaFadeR
import Derived.Test.YtdnipbeggcfnbaaReachP
import Derived.Test.YtdnipbeggcfnbaaLawKit
import Derived.Test.YtdnipbeggcfnbaaOpen
namespace Go.Proofs.Ytdnipbeggcfnbaa.fades
open Go.ChangeShapes Go.WideShapes Go.ChangeAt Go.RowKit

set_option maxRecDepth 100000 in
set_option maxHeartbeats 3200000 in
theorem walk (F T S Dl Tm k t n : Int) (sv : Value) (l : List (Int × Int)) (w : World) (h : PtsAny w sv l) :
    Calls Try.prog 9 #[.agg #[.int .i64 F, .int .i64 T, .int .i64 S, .int .i64 Dl, .int .i64 Tm, .int .i64 k, sv], .int .i64 t, .int .i64 n] w fun e w' => e = .returned (.bool true) ∧ Bl w w' := by
  have A1 := Lib.hid (fun w' (g : Bl w w') => at_any F T S Dl Tm k t l sv w' (h.bl g))
  have A2 := Lib.hid (fun w' (g : Bl w w') => at_ref F T S Dl Tm k t sv l w' (h.bl g))
  have C1 := Lib.hid (fun w' (g : Bl w w') => checkFade_any F T S Dl Tm k sv l w' (h.bl g))
  have C2 := fun w' (g : Bl w w') => checkFade_ref F T S Dl Tm k sv l w' (h.bl g)
  unfold PCk at C2
  have C2 := Lib.hid C2
  have E1 := Lib.hid (fun w' (g : Bl w w') => ends_prog F T S Dl Tm k sv l w' (h.bl g))
  have E2 := Lib.hid (fun w' (g : Bl w w') => ends_ref F T S Dl Tm k sv l w' (h.bl g))
  have R1 := Lib.hid (fun w' (g : Bl w w') => reach_prog F T S Dl Tm k n sv l w' (h.bl g))
  have R2 := Lib.hid (fun w' (g : Bl w w') => reach_ref F T S Dl Tm k n sv l w' (h.bl g))
  obtain ⟨o, ln, cap, hsv⟩ : ∃ o n cap, sv = .slice o n cap := by
    rcases h with ⟨o, cap, rfl, rfl⟩ | ⟨b, off, cap, rfl, h2, h3⟩
    · exact ⟨_, _, _, rfl⟩
    · exact ⟨_, _, _, rfl⟩
  clear h
  subst hsv
  generalize atA F T S Dl Tm k l t = x1 at *
  generalize atX F T S Dl Tm k l t = y1 at *
  generalize enV F T S Dl Tm k l = x2 at *
  generalize ckFade F T S Dl Tm k l = y2 at *
  generalize reV F T S Dl Tm k l n = x3 at *
  generalize reB F T S Dl Tm k l n = b3 at *
  generalize reX F T S Dl Tm k l n = y3 at *
  go_enter Try.func9, Try.ntmps9
  go_wp2_with fail
  refine (A1.out _ ((Bl.refl w).alloc _)).mono ?_
  rintro e w1 ⟨rfl, g1⟩
  have h1 : Bl w w1 := ((Bl.refl w).alloc _).trans g1.bl
  obtain ⟨k0, k1, k2, k3, k4, k5, k6⟩ := own7b rfl g1.bl
  go_wp2_with fail
  refine (A2.out _ h1).mono ?_
  rintro e w2 ⟨rfl, g2⟩
  have h2 := h1.trans g2
  obtain ⟨k0, k1, k2, k3, k4, k5, k6⟩ := own7b rfl (g1.bl.trans g2)
  go_wp2_with fail
  go_region_held3 (fun w' => w'.cell? ⟨w.heap.size, 0, none⟩ = some (.int .i64 F) ∧ w'.cell? ⟨w.heap.size, 1, none⟩ = some (.int .i64 T) ∧ w'.cell? ⟨w.heap.size, 2, none⟩ = some (.int .i64 S) ∧ w'.cell? ⟨w.heap.size, 3, none⟩ = some (.int .i64 Dl) ∧ w'.cell? ⟨w.heap.size, 4, none⟩ = some (.int .i64 Tm) ∧ w'.cell? ⟨w.heap.size, 5, none⟩ = some (.int .i64 k) ∧ w'.cell? ⟨w.heap.size, 6, none⟩ = some (.slice o ln cap))
    (refine ⟨Bl.cell (w := w2) ?_ k0, Bl.cell (w := w2) ?_ k1, Bl.cell (w := w2) ?_ k2, Bl.cell (w := w2) ?_ k3, Bl.cell (w := w2) ?_ k4, Bl.cell (w := w2) ?_ k5, Bl.cell (w := w2) ?_ k6⟩ <;> ((repeat (first | with_reducible exact Bl.refl _ | with_reducible assumption | with_reducible refine Bl.drew ?_ | with_reducible refine Bl.alloc ?_ _ | with_reducible refine Bl.trans ?_ (by assumption))); done))
    (first
      | (go_at_call 32; refine (C1.out _ (by refine Bl.trans h2 ?_; ((repeat (first | with_reducible exact Bl.refl _ | with_reducible assumption | with_reducible refine Bl.drew ?_ | with_reducible refine Bl.alloc ?_ _ | with_reducible refine Bl.trans ?_ (by assumption))); done))).mono ?_; rintro e w3 ⟨rfl, g3'⟩; have g3 := g3'.bl; clear g3')
      | (go_at_call 33; refine (C2.out _ (by refine Bl.trans h2 ?_; ((repeat (first | with_reducible exact Bl.refl _ | with_reducible assumption | with_reducible refine Bl.drew ?_ | with_reducible refine Bl.alloc ?_ _ | with_reducible refine Bl.trans ?_ (by assumption))); done))).mono ?_; rintro e w4 ⟨rfl, g4⟩))
  have h4 : Bl w2 w4 := by ((repeat (first | with_reducible exact Bl.refl _ | with_reducible assumption | with_reducible refine Bl.drew ?_ | with_reducible refine Bl.alloc ?_ _ | with_reducible refine Bl.trans ?_ (by assumption))); done)
  have k0 := h4.cell k0
  have k1 := h4.cell k1
  have k2 := h4.cell k2
  have k3 := h4.cell k3
  have k4 := h4.cell k4
  have k5 := h4.cell k5
  have k6 := h4.cell k6
  have h4 := h2.trans h4
  clear g3 g4
  go_wp2_with fail
  refine (E1.out _ h4).mono ?_
  rintro e w5 ⟨rfl, g5⟩
  have k0 := g5.cell k0
  have k1 := g5.cell k1
  have k2 := g5.cell k2
  have k3 := g5.cell k3
  have k4 := g5.cell k4
  have k5 := g5.cell k5
  have k6 := g5.cell k6
  have h5 := h4.trans g5
  go_wp2_with fail
  refine (E2.out _ h5).mono ?_
  rintro e w6 ⟨rfl, g6⟩
  have k0 := g6.cell k0
  have k1 := g6.cell k1
  have k2 := g6.cell k2
  have k3 := g6.cell k3
  have k4 := g6.cell k4
  have k5 := g6.cell k5
  have k6 := g6.cell k6
  have h6 := h5.trans g6
  go_wp2_with fail
  refine (R1.out _ h6).mono ?_
  rintro e w7 ⟨rfl, g7⟩
  have k0 := g7.bl.cell k0
  have k1 := g7.bl.cell k1
  have k2 := g7.bl.cell k2
  have k3 := g7.bl.cell k3
  have k4 := g7.bl.cell k4
  have k5 := g7.bl.cell k5
  have k6 := g7.bl.cell k6
  have h7 := h6.trans g7.bl
  go_wp2_with fail
  refine (R2.out _ h7).mono ?_
  rintro e w8 ⟨rfl, g8⟩
  have h8 := h7.trans g8
  go_wp2_with fail
  go_returns
  exact ⟨rfl, h8⟩

theorem own : ownKnob Try.prog.godebug = none := by kernel_rfl
theorem laid : laidOutB Try.prog = true := by kernel_rfl

set_option maxRecDepth 100000 in
theorem lifted (os : Os) (started : os.Started) (H : Type) (enc : TypeId × Value → H) :
    ReturnsInHanded {} Try.checked os 9 .any (Rows.levelFadesMatchSpecSpec.pre6 enc Try.prog Try.f9 Rows.levelFadesMatchSpecRow.domain false) (Rows.levelFadesMatchSpecSpec.post enc Try.prog Try.f9 false true false false) := by
  refine returnsInHanded_of_change (C := Try.checked) own started (by kernel_rfl) Try.func9
    (ChangeSpec.witness6 (enc := enc) (C := Try.checked) false ⟨#[], #[.agg #[.int .i64 0, .int .i64 0, .int .i64 0, .int .i64 0, .int .i64 0, .int .i64 0, .slice none 0 0], .int .i64 0, .int .i64 0], []⟩ 8 (by kernel_rfl) (by kernel_rfl) (by kernel_rfl) (by kernel_rfl)) ?_
  intro W base args ds gs before hval0 hW hcnd _
  have hval : ∀ (j : Nat) t v, Try.f9.params[j]? = some t → args[j]? = some v → Value.okWide Try.prog W .any base t v := hval0
  have hW' := hW
  obtain ⟨p, q, hA0, hV, rfl, hfz, hnd⟩ := hW
  have hA : DataW.TrodAll enc Try.prog W 0 (fun _ => true) true Try.f9.params.toList args.toList ds p := hA0
  rw [Try.params9] at hA hval
  obtain ⟨v0, vs0, d0, ds0, p0, q0, hargs, rfl, rfl, h0, r0⟩ := trodAll_cons hA
  obtain ⟨v1, vs1, d1, ds1, p1, q1, rfl, rfl, rfl, h1, r1⟩ := trodAll_cons r0
  obtain ⟨v2, vs2, d2, ds2, p2, q2, rfl, rfl, rfl, h2, r2⟩ := trodAll_cons r1
  obtain ⟨rfl, rfl, rfl⟩ := trodAll_nil r2
  obtain rfl : args = #[v0, v1, v2] := by cases args; simp_all
  obtain ⟨rfl, rfl⟩ := trodVars_none hV
  obtain ⟨F0, T0, S0, Dl0, Tm0, k0, sv0, l0, rfl, wf0, hp0, wp0⟩ := open_fade (hval 0 46 v0 rfl rfl) h0
  obtain ⟨a1, rfl, rfl, rfl, w1⟩ := open_int Try.underlying3 (hval 1 3 v1 rfl rfl) h1
  obtain ⟨a2, rfl, rfl, rfl, w2⟩ := open_int Try.underlying3 (hval 2 3 v2 rfl rfl) h2
  clear hA0 hval0
  refine (walk F0 T0 S0 Dl0 Tm0 k0 a1 a2 sv0 l0 W hp0).mono fun e W' ⟨he, hg⟩ => ?_
  subst he
  exact ⟨_, rfl, law_old hW' rfl rfl (by kernel_rfl) Try.underlying4 laid (by kernel_rfl) hg⟩

theorem over : Rows.levelFadesMatchSpecRow.holds Try.pinned (OpenSpec.ofChange Rows.levelFadesMatchSpecSpec) :=
  OpenClaim.holds_of_wide 9 Try.f9 rfl rfl rfl rfl rfl rfl rfl ⟨rfl, rfl, rfl, rfl, rfl⟩ rfl rfl rfl rfl rfl (by kernel_rfl) Try.func9 (by kernel_rfl)
    (of_decide_eq_true (by kernel_rfl)) (by unfold Func.isWrapper; first | (rw [if_pos (by decide +kernel)]; kernel_rfl) | (rw [if_neg (by decide +kernel)]; exact ⟨rfl, rfl⟩))
    (fun os started H enc _ => lifted os started H enc)

/-- The statement. -/
theorem proved : Rows.LevelFadesMatchSpecSaid :=
  over
end Go.Proofs.Ytdnipbeggcfnbaa.fades

