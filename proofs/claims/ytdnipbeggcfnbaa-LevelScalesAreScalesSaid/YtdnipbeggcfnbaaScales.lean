/- LevelScalesAreScales is proved: Scale is symmetric, grows with both levels, and Full changes nothing, for all three numbers, with no condition. -/
import Derived.Test.YtdnipbeggcfnbaaScale
import Derived.Test.YtdnipbeggcfnbaaPost
namespace Go.Proofs.Ytdnipbeggcfnbaa.scales
open Go.ChangeShapes Go.WideShapes Go.ChangeAt Go.RowKit

theorem own : ownKnob Try.prog.godebug = none := by kernel_rfl
theorem sym (a b : Int) : rnd b 65535 a = rnd a 65535 b := by unfold rnd; rw [show 2 * a * b = 2 * b * a by grind]

/-- What a call of Scale gives, whatever comes in. -/
theorem scale_all (a b : Int) (w : World) : Calls Try.prog 14 #[.int .i64 a, .int .i64 b] w fun e w' => e = .returned (.tuple #[.int .i64 (if (isLev a && isLev b) = true then rnd b 65535 a else 0), .int .i64 (if (isLev a && isLev b) = true then 0 else 1)]) ∧ Gr w w' := by
  cases h : (isLev a && isLev b) with
  | true =>
    have h2 : isLev a = true ∧ isLev b = true := by simpa using h
    exact scale_any a b w h2.1 h2.2
  | false => exact scale_err a b w h

set_option maxHeartbeats 800000 in
theorem walk_err (a b c : Int) (w : World) (h : (isLev a && isLev b) = false) :
    Calls Try.prog 5 #[.int .i64 a, .int .i64 b, .int .i64 c] w fun e w' => e = .returned (.bool true) ∧ Gr w w' := by
  have h1 := fun w => scale_err a b w h
  have h2 := fun w => scale_err b a w (by rw [Bool.and_comm]; exact h)
  have H1 := Lib.hid h1
  have H2 := Lib.hid h2
  clear h h1 h2
  go_enter Try.func5, Try.ntmps5
  go_wp2_with fail
  refine (H1.out _).mono ?_
  rintro e w1 ⟨rfl, g1⟩
  go_wp2_with fail
  refine (H2.out _).mono ?_
  rintro e w2 ⟨rfl, g2⟩
  go_wp2_with fail
  go_returns
  exact ⟨rfl, g1.trans g2⟩

set_option maxHeartbeats 1600000 in
theorem walk_ok (a b c X W k : Int) (w : World) (ha : isLev a = true) (hb : isLev b = true) (hX : rnd b 65535 a = X)
    (hW : ∀ w, Calls Try.prog 14 #[.int .i64 a, .int .i64 c] w fun e w' => e = .returned (.tuple #[.int .i64 W, .int .i64 k]) ∧ Gr w w')
    (hk : k = 1 ∨ (k = 0 ∧ (b ≤ c → X ≤ W) ∧ (c ≤ b → W ≤ X))) :
    Calls Try.prog 5 #[.int .i64 a, .int .i64 b, .int .i64 c] w fun e w' => e = .returned (.bool true) ∧ Gr w w' := by
  have h1 := fun w => scale_any a b w ha hb
  have h2 := fun w => scale_any b a w hb ha
  have h3 := fun w => scale_any a 65535 w ha (by decide)
  rw [hX] at h1
  rw [← sym, hX] at h2
  rw [rnd_full (by omega)] at h3
  have H1 := Lib.hid h1
  have H2 := Lib.hid h2
  have H3 := Lib.hid h3
  have H4 := Lib.hid hW
  clear h1 h2 h3 hW ha hb hX
  rcases hk with rfl | ⟨rfl, m1, m2⟩
  · go_enter Try.func5, Try.ntmps5
    go_wp2_with fail
    refine (H1.out _).mono ?_
    rintro e w1 ⟨rfl, g1⟩
    go_wp2_with fail
    refine (H2.out _).mono ?_
    rintro e w2 ⟨rfl, g2⟩
    go_wp2_with fail
    refine (H3.out _).mono ?_
    rintro e w3 ⟨rfl, g3⟩
    go_wp2_with fail
    refine (H4.out _).mono ?_
    rintro e w4 ⟨rfl, g4⟩
    go_wp2_with fail
    go_returns
    exact ⟨rfl, ((g1.trans g2).trans g3).trans g4⟩
  · have key : (c < b ∧ W ≤ X ∧ ¬ b < c) ∨ (¬ c < b ∧ X ≤ W ∧ b < c) ∨ (¬ c < b ∧ ¬ b < c ∧ X ≤ W ∧ W ≤ X) := by omega
    clear m1 m2
    rcases key with ⟨q1, q2, q3⟩ | ⟨q1, q2, q3⟩ | ⟨q1, q2, q3, q4⟩
    all_goals
      go_enter Try.func5, Try.ntmps5
      go_wp2_with fail
      refine (H1.out _).mono ?_
      rintro e w1 ⟨rfl, g1⟩
      go_wp2_with fail
      refine (H2.out _).mono ?_
      rintro e w2 ⟨rfl, g2⟩
      go_wp2_with fail
      refine (H3.out _).mono ?_
      rintro e w3 ⟨rfl, g3⟩
      go_wp2_with fail
      refine (H4.out _).mono ?_
      rintro e w4 ⟨rfl, g4⟩
      go_wp2_with fail
      go_returns
      exact ⟨by first | rfl | (refine ret_bool ?_; simp; omega), ((g1.trans g2).trans g3).trans g4⟩

theorem walk (a b c : Int) (w : World) :
    Calls Try.prog 5 #[.int .i64 a, .int .i64 b, .int .i64 c] w fun e w' => e = .returned (.bool true) ∧ Gr w w' := by
  cases h : (isLev a && isLev b) with
  | false => exact walk_err a b c w h
  | true =>
    have h2 : isLev a = true ∧ isLev b = true := by simpa using h
    obtain ⟨a0, a1⟩ := isLev_iff.1 h2.1
    refine walk_ok a b c _ _ _ w h2.1 h2.2 rfl (fun w => scale_all a c w) ?_
    cases hc : isLev c with
    | false => left; simp
    | true =>
      right
      rw [h2.1]
      refine ⟨by simp, fun hbc => ?_, fun hcb => ?_⟩
      · exact rnd_mono (by omega) (by omega) a0 (by omega)
      · exact rnd_mono (by omega) (by omega) a0 (by omega)

set_option maxRecDepth 100000 in
theorem lifted (os : Os) (started : os.Started) (H : Type) (enc : TypeId × Value → H) :
    ReturnsInHanded {} Try.checked os 5 .any (Rows.levelScalesAreScalesSpec.pre6 enc Try.prog Try.f5 Rows.levelScalesAreScalesRow.domain false) (Rows.levelScalesAreScalesSpec.post enc Try.prog Try.f5 false true false false) := by
  refine returnsInHanded_of_change (C := Try.checked) own started (by kernel_rfl) Try.func5
    (ChangeSpec.witness6 (enc := enc) (C := Try.checked) false ⟨#[], #[.int .i64 0, .int .i64 0, .int .i64 0], []⟩ 8 (by kernel_rfl) (by kernel_rfl) (by kernel_rfl) (by kernel_rfl)) ?_
  intro W base args ds gs before hval0 hW hcnd _
  have hval : ∀ (j : Nat) t v, Try.f5.params[j]? = some t → args[j]? = some v → Value.okWide Try.prog W .any base t v := hval0
  have hW' := hW
  obtain ⟨p, q, hA0, hV, rfl, hfz, hnd⟩ := hW
  have hA : DataW.TrodAll enc Try.prog W 0 (fun _ => true) true Try.f5.params.toList args.toList ds p := hA0
  rw [Try.params5] at hA hval
  obtain ⟨v0, vs0, d0, ds0, p0, q0, hargs, rfl, rfl, h0, r0⟩ := trodAll_cons hA
  obtain ⟨v1, vs1, d1, ds1, p1, q1, rfl, rfl, rfl, h1, r1⟩ := trodAll_cons r0
  obtain ⟨v2, vs2, d2, ds2, p2, q2, rfl, rfl, rfl, h2, r2⟩ := trodAll_cons r1
  obtain ⟨rfl, rfl, rfl⟩ := trodAll_nil r2
  obtain rfl : args = #[v0, v1, v2] := by cases args; simp_all
  obtain ⟨rfl, rfl⟩ := trodVars_none hV
  obtain ⟨a0, rfl, rfl, rfl, w0⟩ := open_int Try.underlying3 (hval 0 3 v0 rfl rfl) h0
  obtain ⟨a1, rfl, rfl, rfl, w1⟩ := open_int Try.underlying3 (hval 1 3 v1 rfl rfl) h1
  obtain ⟨a2, rfl, rfl, rfl, w2⟩ := open_int Try.underlying3 (hval 2 3 v2 rfl rfl) h2
  clear hA0 hval0
  simp only [List.append_nil] at hW'
  refine (walk a0 a1 a2 W).mono fun e W' ⟨he, hg⟩ => ?_
  subst he
  exact ⟨_, rfl, post_of_gr (pa := []) (pv := []) hW' (fun _ _ _ => (trodAll_cons_mk (shut_bool Try.underlying4 _) trodAll_mk0)) (fun sp _ => (trodAll_cons_mk (shut_int Try.underlying3 w0) (trodAll_cons_mk (shut_int Try.underlying3 w1) (trodAll_cons_mk (shut_int Try.underlying3 w2) trodAll_mk0)))) (fun _ _ => rfl) rfl
    hg (ok_one (by kernel_rfl) rfl (okWide_bool_mk Try.underlying4 _))⟩

theorem over : Rows.levelScalesAreScalesRow.holds Try.pinned (OpenSpec.ofChange Rows.levelScalesAreScalesSpec) :=
  OpenClaim.holds_of_wide 5 Try.f5 rfl rfl rfl rfl rfl rfl rfl ⟨rfl, rfl, rfl, rfl, rfl⟩ rfl rfl rfl rfl rfl (by kernel_rfl) Try.func5 (by kernel_rfl)
    (of_decide_eq_true (by kernel_rfl)) (by unfold Func.isWrapper; first | (rw [if_pos (by decide +kernel)]; kernel_rfl) | (rw [if_neg (by decide +kernel)]; exact ⟨rfl, rfl⟩))
    (fun os started H enc _ => lifted os started H enc)

/-- The statement. -/
theorem proved : Rows.LevelScalesAreScalesSaid :=
  over

end Go.Proofs.Ytdnipbeggcfnbaa.scales
