/- LevelFadesGoOneWay is proved: a fade goes from its one level to the other one, and never back, for every fade and all times, with no condition. -/
import Derived.Test.YtdnipbeggcfnbaaAt
import Derived.Test.YtdnipbeggcfnbaaOpen
import Derived.Test.YtdnipbeggcfnbaaFadeM
namespace Go.Proofs.Ytdnipbeggcfnbaa.oneway
open Go.ChangeShapes Go.WideShapes Go.ChangeAt Go.RowKit

set_option maxHeartbeats 1600000 in
theorem walk (F T S Dl Tm k t u : Int) (l : List (Int × Int)) (sv : Value) (w : World) (h : PtsAny w sv l) :
    Calls Try.prog 10 #[.agg #[.int .i64 F, .int .i64 T, .int .i64 S, .int .i64 Dl, .int .i64 Tm, .int .i64 k, sv], .int .i64 t, .int .i64 u] w fun e w' => e = .returned (.bool true) ∧ Gr w w' := by
  have hmM : min t u ≤ max t u := by omega
  have h1 := fun t w1 (g : Gr w w1) => at_any F T S Dl Tm k t l sv w1 (h.gr g)
  have g1 := at_bad (F := F) (T := T) (S := S) (Dl := Dl) (Tm := Tm) (k := k) (l := l) (t := min t u)
  have g2 := at_bad (F := F) (T := T) (S := S) (Dl := Dl) (Tm := Tm) (k := k) (l := l) (t := max t u)
  have p1 := at_good (F := F) (T := T) (S := S) (Dl := Dl) (Tm := Tm) (k := k) (l := l) (t := min t u)
  have p2 := at_good (F := F) (T := T) (S := S) (Dl := Dl) (Tm := Tm) (k := k) (l := l) (t := max t u)
  have c1 := h1 (min t u)
  have c2 := h1 (max t u)
  generalize atA F T S Dl Tm k l (min t u) = a1 at *
  generalize atX F T S Dl Tm k l (min t u) = x1 at *
  generalize atA F T S Dl Tm k l (max t u) = a2 at *
  generalize atX F T S Dl Tm k l (max t u) = x2 at *
  have H1 := Lib.hid c1
  have H2 := Lib.hid c2
  clear c1 c2 h1
  by_cases hx1 : x1 = 0
  · by_cases hx2 : x2 = 0
    · obtain ⟨hc, hm, q1⟩ := p1 hx1
      obtain ⟨_, hM, q2⟩ := p2 hx2
      obtain ⟨hok, _⟩ := okFade_of hc
      obtain ⟨m1, m2⟩ := fade_way hok hmM
      rw [← q1, ← q2] at m1 m2
      have HE := Lib.hid (fun w1 (g : Gr w w1) => ends_ok F T S Dl Tm k l sv w1 (h.gr g) hc)
      have HT := fun w1 (g : Gr w w1) => at_ok F T S Dl Tm k (S + Dl + Tm) l sv w1 (h.gr g) hc (isTm_iff.2 ⟨by have := hok.s0; have := hok.d0; have := hok.m0; omega, hok.e1⟩)
      rw [fade_end] at HT
      have HT := Lib.hid HT
      clear p1 p2 g1 g2 q1 q2 hm hM hmM hc hok
      subst hx1 hx2
      clear h
      have M1 : F ≤ T → F ≤ a1 ∧ a1 ≤ a2 ∧ a2 ≤ T := m1
      by_cases hFT : F ≤ T
      · obtain ⟨o1, o2, o3⟩ := m1 hFT
        clear m1 m2 M1
        go_enter Try.func10, Try.ntmps10
        go_wp2_with fail
        refine (H1.out _ ((Gr.refl w).alloc _)).mono ?_
        rintro e w1 ⟨rfl, k1⟩
        obtain ⟨r0, r1, r2, r3, r4, r5, r6⟩ := own7 k1
        go_wp2_with fail
        clear r0 r1 r2 r3 r4 r5 r6
        refine (H2.out _ (((Gr.refl w).alloc _).trans k1)).mono ?_
        rintro e w2 ⟨rfl, k2⟩
        obtain ⟨r0, r1, r2, r3, r4, r5, r6⟩ := own7 (k1.trans k2)
        go_wp2_with fail
        clear r0 r1 r2 r3 r4 r5 r6
        refine (HE.out _ ((((Gr.refl w).alloc _).trans k1).trans k2)).mono ?_
        rintro e w3 ⟨rfl, k3⟩
        obtain ⟨r0, r1, r2, r3, r4, r5, r6⟩ := own7 ((k1.trans k2).trans k3)
        go_wp2_with fail
        clear r0 r1 r2 r3 r4 r5 r6
        refine (HT.out _ (((((Gr.refl w).alloc _).trans k1).trans k2).trans k3)).mono ?_
        rintro e w4 ⟨rfl, k4⟩
        obtain ⟨r0, r1, r2, r3, r4, r5, r6⟩ := own7 (((k1.trans k2).trans k3).trans k4)
        go_wp2_with fail
        go_returns
        exact ⟨rfl, (((((Gr.refl w).alloc _).trans k1).trans k2).trans k3).trans k4⟩
      · obtain ⟨o1, o2, o3⟩ := m2 (by omega)
        clear m1 m2 M1
        go_enter Try.func10, Try.ntmps10
        go_wp2_with fail
        refine (H1.out _ ((Gr.refl w).alloc _)).mono ?_
        rintro e w1 ⟨rfl, k1⟩
        obtain ⟨r0, r1, r2, r3, r4, r5, r6⟩ := own7 k1
        go_wp2_with fail
        clear r0 r1 r2 r3 r4 r5 r6
        refine (H2.out _ (((Gr.refl w).alloc _).trans k1)).mono ?_
        rintro e w2 ⟨rfl, k2⟩
        obtain ⟨r0, r1, r2, r3, r4, r5, r6⟩ := own7 (k1.trans k2)
        go_wp2_with fail
        clear r0 r1 r2 r3 r4 r5 r6
        refine (HE.out _ ((((Gr.refl w).alloc _).trans k1).trans k2)).mono ?_
        rintro e w3 ⟨rfl, k3⟩
        obtain ⟨r0, r1, r2, r3, r4, r5, r6⟩ := own7 ((k1.trans k2).trans k3)
        go_wp2_with fail
        clear r0 r1 r2 r3 r4 r5 r6
        refine (HT.out _ (((((Gr.refl w).alloc _).trans k1).trans k2).trans k3)).mono ?_
        rintro e w4 ⟨rfl, k4⟩
        obtain ⟨r0, r1, r2, r3, r4, r5, r6⟩ := own7 (((k1.trans k2).trans k3).trans k4)
        go_wp2_with fail
        go_returns
        exact ⟨rfl, (((((Gr.refl w).alloc _).trans k1).trans k2).trans k3).trans k4⟩
    · obtain rfl : a2 = 0 := g2 hx2
      have hb2 : (x2 != 0) = true := by simpa using hx2
      clear p1 p2 g1 g2 hmM
      subst hx1
      clear h
      go_enter Try.func10, Try.ntmps10
      go_wp2_with fail
      refine (H1.out _ ((Gr.refl w).alloc _)).mono ?_
      rintro e w1 ⟨rfl, k1⟩
      obtain ⟨r0, r1, r2, r3, r4, r5, r6⟩ := own7 k1
      go_wp2_with fail
      clear r0 r1 r2 r3 r4 r5 r6
      refine (H2.out _ (((Gr.refl w).alloc _).trans k1)).mono ?_
      rintro e w2 ⟨rfl, k2⟩
      go_wp2_with fail
      go_returns
      exact ⟨rfl, (((Gr.refl w).alloc _).trans k1).trans k2⟩
  · obtain rfl : a1 = 0 := g1 hx1
    have hb1 : (x1 != 0) = true := by simpa using hx1
    clear p1 p2 g1 g2 hmM h
    go_enter Try.func10, Try.ntmps10
    go_wp2_with fail
    refine (H1.out _ ((Gr.refl w).alloc _)).mono ?_
    rintro e w1 ⟨rfl, k1⟩
    obtain ⟨r0, r1, r2, r3, r4, r5, r6⟩ := own7 k1
    go_wp2_with fail
    clear r0 r1 r2 r3 r4 r5 r6
    refine (H2.out _ (((Gr.refl w).alloc _).trans k1)).mono ?_
    rintro e w2 ⟨rfl, k2⟩
    go_wp2_with fail
    go_returns
    exact ⟨rfl, (((Gr.refl w).alloc _).trans k1).trans k2⟩

theorem own : ownKnob Try.prog.godebug = none := by kernel_rfl
theorem laid : laidOutB Try.prog = true := by kernel_rfl

set_option maxRecDepth 100000 in
theorem lifted (os : Os) (started : os.Started) (H : Type) (enc : TypeId × Value → H) :
    ReturnsInHanded {} Try.checked os 10 .any (Rows.levelFadesGoOneWaySpec.pre6 enc Try.prog Try.f10 Rows.levelFadesGoOneWayRow.domain false) (Rows.levelFadesGoOneWaySpec.post enc Try.prog Try.f10 false true false false) := by
  refine returnsInHanded_of_change (C := Try.checked) own started (by kernel_rfl) Try.func10
    (ChangeSpec.witness6 (enc := enc) (C := Try.checked) false ⟨#[], #[.agg #[.int .i64 0, .int .i64 0, .int .i64 0, .int .i64 0, .int .i64 0, .int .i64 0, .slice none 0 0], .int .i64 0, .int .i64 0], []⟩ 8 (by kernel_rfl) (by kernel_rfl) (by kernel_rfl) (by kernel_rfl)) ?_
  intro W base args ds gs before hval0 hW hcnd _
  have hval : ∀ (j : Nat) t v, Try.f10.params[j]? = some t → args[j]? = some v → Value.okWide Try.prog W .any base t v := hval0
  have hW' := hW
  obtain ⟨p, q, hA0, hV, rfl, hfz, hnd⟩ := hW
  have hA : DataW.TrodAll enc Try.prog W 0 (fun _ => true) true Try.f10.params.toList args.toList ds p := hA0
  rw [Try.params10] at hA hval
  obtain ⟨v0, v1, v2, d0, d1, d2, p0, p1, p2, rfl, rfl, rfl, h0, h1, h2⟩ := trodAll_three hA
  obtain ⟨rfl, rfl⟩ := trodVars_none hV
  obtain ⟨F, T, S, Dl, Tm, k, sv, l, rfl, _, hp, _⟩ := open_fade (hval 0 46 v0 rfl rfl) h0
  obtain ⟨a1, rfl, rfl, rfl, w1⟩ := open_int Try.underlying3 (hval 1 3 v1 rfl rfl) h1
  obtain ⟨a2, rfl, rfl, rfl, w2⟩ := open_int Try.underlying3 (hval 2 3 v2 rfl rfl) h2
  clear hA0 hval0
  refine (walk F T S Dl Tm k a1 a2 l sv W hp).mono fun e W' ⟨he, hg⟩ => ?_
  subst he
  exact ⟨_, rfl, law_post hW' rfl rfl (by kernel_rfl) Try.underlying4 laid (by kernel_rfl) hg⟩

theorem over : Rows.levelFadesGoOneWayRow.holds Try.pinned (OpenSpec.ofChange Rows.levelFadesGoOneWaySpec) :=
  OpenClaim.holds_of_wide 10 Try.f10 rfl rfl rfl rfl rfl rfl rfl ⟨rfl, rfl, rfl, rfl, rfl⟩ rfl rfl rfl rfl rfl (by kernel_rfl) Try.func10 (by kernel_rfl)
    (of_decide_eq_true (by kernel_rfl)) (by unfold Func.isWrapper; first | (rw [if_pos (by decide +kernel)]; kernel_rfl) | (rw [if_neg (by decide +kernel)]; exact ⟨rfl, rfl⟩))
    (fun os started H enc _ => lifted os started H enc)

/-- The statement. -/
theorem proved : Rows.LevelFadesGoOneWaySaid :=
  over
end Go.Proofs.Ytdnipbeggcfnbaa.oneway
