/- LevelEasesMatchSpec is proved: Ease answers as the reference does, for all curves and parts, with no condition. -/
import Derived.Test.YtdnipbeggcfnbaaEaseR
import Derived.Test.YtdnipbeggcfnbaaWay6
import Derived.Test.YtdnipbeggcfnbaaLawKit
import Derived.Test.YtdnipbeggcfnbaaOpen
namespace Go.Proofs.Ytdnipbeggcfnbaa.eases
open Go.ChangeShapes Go.WideShapes Go.ChangeAt Go.RowKit

set_option maxHeartbeats 1600000 in
theorem walk (k p q : Int) (sv : Value) (l : List (Int × Int)) (w : World) (h : PtsAny w sv l) :
    Calls Try.prog 7 #[.agg #[.int .i64 k, sv], .int .i64 p, .int .i64 q] w fun e w' => e = .returned (.bool true) ∧ Bl w w' := by
  have E1 := Lib.hid (fun w' (g : Bl w w') => ease_prog k l sv p q w' (h.bl g))
  have E2 := Lib.hid (fun w' (g : Bl w w') => ease_ref0 k l sv p q w' (h.bl g) (fun hc w'' v g' hv p0 p1 q0 q1 => way_any k sv l v p q w'' (h.bl (g.trans g')) hc hv p0 p1 q0 q1))
  obtain ⟨o, n, cap, hsv⟩ : ∃ o n cap, sv = .slice o n cap := by
    rcases h with ⟨o, cap, rfl, rfl⟩ | ⟨b, off, cap, rfl, h2, h3⟩
    · exact ⟨_, _, _, rfl⟩
    · exact ⟨_, _, _, rfl⟩
  clear h
  subst hsv
  generalize eaV k l p q = x1 at *
  generalize eaX k l p q = y1 at *
  go_enter Try.func7, Try.ntmps7
  go_wp2_with fail
  refine (E1.out _ ((Bl.refl w).alloc _)).mono ?_
  rintro e w1 ⟨rfl, g1⟩
  obtain ⟨k0, k1⟩ := box2 rfl g1.bl
  go_wp2_with fail
  refine (E2.out _ (((Bl.refl w).alloc _).trans g1.bl)).mono ?_
  rintro e w2 ⟨rfl, g2⟩
  go_wp2_with fail
  go_returns
  exact ⟨rfl, (((Bl.refl w).alloc _).trans g1.bl).trans g2⟩

theorem own : ownKnob Try.prog.godebug = none := by kernel_rfl
theorem laid : laidOutB Try.prog = true := by kernel_rfl

set_option maxRecDepth 100000 in
theorem lifted (os : Os) (started : os.Started) (H : Type) (enc : TypeId × Value → H) :
    ReturnsInHanded {} Try.checked os 7 .any (Rows.levelEasesMatchSpecSpec.pre6 enc Try.prog Try.f7 Rows.levelEasesMatchSpecRow.domain false) (Rows.levelEasesMatchSpecSpec.post enc Try.prog Try.f7 false true false false) := by
  refine returnsInHanded_of_change (C := Try.checked) own started (by kernel_rfl) Try.func7
    (ChangeSpec.witness6 (enc := enc) (C := Try.checked) false ⟨#[], #[.agg #[.int .i64 0, .slice none 0 0], .int .i64 0, .int .i64 0], []⟩ 8 (by kernel_rfl) (by kernel_rfl) (by kernel_rfl) (by kernel_rfl)) ?_
  intro W base args ds gs before hval0 hW hcnd _
  have hval : ∀ (j : Nat) t v, Try.f7.params[j]? = some t → args[j]? = some v → Value.okWide Try.prog W .any base t v := hval0
  have hW' := hW
  obtain ⟨p, q, hA0, hV, rfl, hfz, hnd⟩ := hW
  have hA : DataW.TrodAll enc Try.prog W 0 (fun _ => true) true Try.f7.params.toList args.toList ds p := hA0
  rw [Try.params7] at hA hval
  obtain ⟨v0, v1, v2, d0, d1, d2, p0, p1, p2, rfl, rfl, rfl, h0, h1, h2⟩ := trodAll_three hA
  obtain ⟨rfl, rfl⟩ := trodVars_none hV
  obtain ⟨k, sv, l, rfl, _, hp, _⟩ := open_curve (hval 0 40 v0 rfl rfl) h0
  obtain ⟨a1, rfl, rfl, rfl, w1⟩ := open_int Try.underlying3 (hval 1 3 v1 rfl rfl) h1
  obtain ⟨a2, rfl, rfl, rfl, w2⟩ := open_int Try.underlying3 (hval 2 3 v2 rfl rfl) h2
  clear hA0 hval0
  refine (walk k a1 a2 sv l W hp).mono fun e W' ⟨he, hg⟩ => ?_
  subst he
  exact ⟨_, rfl, law_old hW' rfl rfl (by kernel_rfl) Try.underlying4 laid (by kernel_rfl) hg⟩

theorem over : Rows.levelEasesMatchSpecRow.holds Try.pinned (OpenSpec.ofChange Rows.levelEasesMatchSpecSpec) :=
  OpenClaim.holds_of_wide 7 Try.f7 rfl rfl rfl rfl rfl rfl rfl ⟨rfl, rfl, rfl, rfl, rfl⟩ rfl rfl rfl rfl rfl (by kernel_rfl) Try.func7 (by kernel_rfl)
    (of_decide_eq_true (by kernel_rfl)) (by unfold Func.isWrapper; first | (rw [if_pos (by decide +kernel)]; kernel_rfl) | (rw [if_neg (by decide +kernel)]; exact ⟨rfl, rfl⟩))
    (fun os started H enc _ => lifted os started H enc)

/-- The statement. -/
theorem proved : Rows.LevelEasesMatchSpecSaid :=
  over
end Go.Proofs.Ytdnipbeggcfnbaa.eases
