/- LevelChangesMatchSpec is proved: Changes answers as the reference does, for all fades, with no condition. -/
import Derived.Test.YtdnipbeggcfnbaaFadeR
import Derived.Test.YtdnipbeggcfnbaaChPA
import Derived.Test.YtdnipbeggcfnbaaChR
import Derived.Test.YtdnipbeggcfnbaaEqC
import Derived.Test.YtdnipbeggcfnbaaLawKit
import Derived.Test.YtdnipbeggcfnbaaOpen
namespace Go.Proofs.Ytdnipbeggcfnbaa.changes
open Go.ChangeShapes Go.WideShapes Go.ChangeAt Go.RowKit

set_option maxHeartbeats 1600000 in
theorem changes_ref (F T S Dl Tm k : Int) (sv : Value) (l : List (Int × Int)) (w : World) (h : PtsAny w sv l) :
    Calls Try.prog 39 #[.agg #[.int .i64 F, .int .i64 T, .int .i64 S, .int .i64 Dl, .int .i64 Tm, .int .i64 k, sv]] w fun e w' => ∃ v, e = .returned (.tuple #[v, .int .i64 (csX F T S Dl Tm k l)]) ∧ PtsAny w' v (csL F T S Dl Tm k l) ∧ Bl w w' := by
  by_cases hc : ckFade F T S Dl Tm k l = 0
  · exact changes_ref0 F T S Dl Tm k sv l w h hc (fun w' t g t0 t1 => levelAt_ref F T S Dl Tm k t sv l w' (h.bl g) hc t0 t1)
  · have HC := fun w1 (g : Bl w w1) => checkFade_ref F T S Dl Tm k sv l w1 (h.bl g)
    unfold PCk at HC
    have e := Lib.hid (cs_ck hc)
    obtain ⟨o, ln, cap, hsv⟩ : ∃ o n cap, sv = .slice o n cap := by
      rcases h with ⟨o, cap, rfl, rfl⟩ | ⟨b, off, cap, rfl, h2, h3⟩
      · exact ⟨_, _, _, rfl⟩
      · exact ⟨_, _, _, rfl⟩
    generalize hcc : ckFade F T S Dl Tm k l = cc at *
    have hb : (cc != 0) = true := by simpa using hc
    have HC := Lib.hid HC
    clear h hc hcc
    subst hsv
    go_enter Try.func39, Try.ntmps39
    go_wp2_with fail
    refine (HC.out _ ((Bl.refl w).alloc _)).mono ?_
    rintro e' w1 ⟨rfl, g1⟩
    go_wp2_with fail
    go_returns
    exact ⟨.slice none 0 0, by rw [e.out.2]; rfl, by rw [e.out.1]; exact Or.inl ⟨_, _, rfl, rfl⟩, ((Bl.refl w).alloc _).trans g1⟩

set_option maxRecDepth 100000 in
set_option maxHeartbeats 3200000 in
theorem walk (F T S Dl Tm k : Int) (sv : Value) (l : List (Int × Int)) (w : World) (h : PtsAny w sv l) :
    Calls Try.prog 11 #[.agg #[.int .i64 F, .int .i64 T, .int .i64 S, .int .i64 Dl, .int .i64 Tm, .int .i64 k, sv]] w fun e w' => e = .returned (.bool true) ∧ Bl w w' := by
  have A1 := Lib.hid (fun w' (g : Bl w w') => changes_prog F T S Dl Tm k sv l w' (h.bl g))
  have A2 := Lib.hid (fun w' (g : Bl w w') => changes_ref F T S Dl Tm k sv l w' (h.bl g))
  obtain ⟨o, ln, cap, hsv⟩ : ∃ o n cap, sv = .slice o n cap := by
    rcases h with ⟨o, cap, rfl, rfl⟩ | ⟨b, off, cap, rfl, h2, h3⟩
    · exact ⟨_, _, _, rfl⟩
    · exact ⟨_, _, _, rfl⟩
  clear h
  subst hsv
  generalize csL F T S Dl Tm k l = r1 at *
  generalize csX F T S Dl Tm k l = y1 at *
  go_enter Try.func11, Try.ntmps11
  go_wp2_with fail
  refine (A1.out _ ((Bl.refl w).alloc _)).mono ?_
  rintro e w1 ⟨v1, rfl, hp1, g1⟩
  have HP1 := Lib.hid hp1
  clear hp1
  have h1 : Bl w w1 := ((Bl.refl w).alloc _).trans g1
  obtain ⟨k0, k1, k2, k3, k4, k5, k6⟩ := own7b rfl g1
  go_wp2_with fail
  refine (A2.out _ h1).mono ?_
  rintro e w2 ⟨v2, rfl, hp2, g2⟩
  have HP2 := Lib.hid hp2
  clear hp2
  go_wp2_with fail
  refine (eqCh v1 v2 _ _ (HP1.out.bl g2) HP2.out).mono ?_
  rintro e w3 ⟨rfl, g3⟩
  go_wp2_with fail
  go_returns
  exact ⟨rfl, (h1.trans g2).trans g3⟩

theorem own : ownKnob Try.prog.godebug = none := by kernel_rfl
theorem laid : laidOutB Try.prog = true := by kernel_rfl

set_option maxRecDepth 100000 in
theorem lifted (os : Os) (started : os.Started) (H : Type) (enc : TypeId × Value → H) :
    ReturnsInHanded {} Try.checked os 11 .any (Rows.levelChangesMatchSpecSpec.pre6 enc Try.prog Try.f11 Rows.levelChangesMatchSpecRow.domain false) (Rows.levelChangesMatchSpecSpec.post enc Try.prog Try.f11 false true false false) := by
  refine returnsInHanded_of_change (C := Try.checked) own started (by kernel_rfl) Try.func11
    (ChangeSpec.witness6 (enc := enc) (C := Try.checked) false ⟨#[], #[.agg #[.int .i64 0, .int .i64 0, .int .i64 0, .int .i64 0, .int .i64 0, .int .i64 0, .slice none 0 0]], []⟩ 8 (by kernel_rfl) (by kernel_rfl) (by kernel_rfl) (by kernel_rfl)) ?_
  intro W base args ds gs before hval0 hW hcnd _
  have hval : ∀ (j : Nat) t v, Try.f11.params[j]? = some t → args[j]? = some v → Value.okWide Try.prog W .any base t v := hval0
  have hW' := hW
  obtain ⟨p, q, hA0, hV, rfl, hfz, hnd⟩ := hW
  have hA : DataW.TrodAll enc Try.prog W 0 (fun _ => true) true Try.f11.params.toList args.toList ds p := hA0
  rw [Try.params11] at hA hval
  obtain ⟨v0, vs0, d0, ds0, p0, q0, hargs, rfl, rfl, h0, r0⟩ := trodAll_cons hA
  obtain ⟨rfl, rfl, rfl⟩ := trodAll_nil r0
  obtain rfl : args = #[v0] := by cases args; simp_all
  obtain ⟨rfl, rfl⟩ := trodVars_none hV
  obtain ⟨F0, T0, S0, Dl0, Tm0, k0, sv0, l0, rfl, wf0, hp0, wp0⟩ := open_fade (hval 0 46 v0 rfl rfl) h0
  clear hA0 hval0
  refine (walk F0 T0 S0 Dl0 Tm0 k0 sv0 l0 W hp0).mono fun e W' ⟨he, hg⟩ => ?_
  subst he
  exact ⟨_, rfl, law_old hW' rfl rfl (by kernel_rfl) Try.underlying4 laid (by kernel_rfl) hg⟩

theorem over : Rows.levelChangesMatchSpecRow.holds Try.pinned (OpenSpec.ofChange Rows.levelChangesMatchSpecSpec) :=
  OpenClaim.holds_of_wide 11 Try.f11 rfl rfl rfl rfl rfl rfl rfl ⟨rfl, rfl, rfl, rfl, rfl⟩ rfl rfl rfl rfl rfl (by kernel_rfl) Try.func11 (by kernel_rfl)
    (of_decide_eq_true (by kernel_rfl)) (by unfold Func.isWrapper; first | (rw [if_pos (by decide +kernel)]; kernel_rfl) | (rw [if_neg (by decide +kernel)]; exact ⟨rfl, rfl⟩))
    (fun os started H enc _ => lifted os started H enc)

/-- The statement. -/
theorem proved : Rows.LevelChangesMatchSpecSaid :=
  over
end Go.Proofs.Ytdnipbeggcfnbaa.changes

