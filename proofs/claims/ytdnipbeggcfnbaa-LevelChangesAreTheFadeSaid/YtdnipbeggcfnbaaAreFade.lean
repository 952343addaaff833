/- LevelChangesAreTheFade is proved: a fade has at each time the level of the last change up to then, for all fades and times, with no condition. -/
import Derived.Test.YtdnipbeggcfnbaaChPA
import Derived.Test.YtdnipbeggcfnbaaChM2
import Derived.Test.YtdnipbeggcfnbaaFadeC
import Derived.Test.YtdnipbeggcfnbaaLawKit
import Derived.Test.YtdnipbeggcfnbaaOpen
namespace Go.Proofs.Ytdnipbeggcfnbaa.arefade
open Go.ChangeShapes Go.WideShapes Go.ChangeAt Go.RowKit

set_option maxRecDepth 100000 in
set_option maxHeartbeats 3200000 in
theorem walk (F T S Dl Tm k t : Int) (sv : Value) (l : List (Int × Int)) (w : World) (h : PtsAny w sv l) :
    Calls Try.prog 12 #[.agg #[.int .i64 F, .int .i64 T, .int .i64 S, .int .i64 Dl, .int .i64 Tm, .int .i64 k, sv], .int .i64 t] w fun e w' => e = .returned (.bool true) ∧ Bl w w' := by
  have A1 := Lib.hid (fun w' (g : Bl w w') => changes_prog F T S Dl Tm k sv l w' (h.bl g))
  have A2 := Lib.hid (fun w' (g : Bl w w') => at_any F T S Dl Tm k t l sv w' (h.bl g))
  obtain ⟨o, ln, cap, hsv⟩ : ∃ o n cap, sv = .slice o n cap := by
    rcases h with ⟨o, cap, rfl, rfl⟩ | ⟨b, off, cap, rfl, h2, h3⟩
    · exact ⟨_, _, _, rfl⟩
    · exact ⟨_, _, _, rfl⟩
  clear h
  subst hsv
  by_cases hx : csX F T S Dl Tm k l = 0
  · have hpos := cs_pos (cs_good hx) hx
    have hAA : atX F T S Dl Tm k l t = 0 → S ≤ t → ∀ a, lastL t a (csL F T S Dl Tm k l) = atA F T S Dl Tm k l t := fun h1 h2 a => by rw [at_right h1]; exact cs_last (cs_good hx) hx h2 a
    rw [hx] at A1
    generalize csL F T S Dl Tm k l = r1 at *
    generalize atA F T S Dl Tm k l t = aa at *
    generalize atX F T S Dl Tm k l t = ax at *
    clear hx
    have HAA := Lib.hid hAA
    clear hAA
    go_enter Try.func12, Try.ntmps12
    go_wp2_with fail
    refine (A1.out _ ((Bl.refl w).alloc _)).mono ?_
    rintro e w1 ⟨v1, rfl, hp1, g1⟩
    obtain ⟨k0, k1, k2, k3, k4, k5, k6⟩ := own7b rfl g1
    have h1 : Bl w w1 := ((Bl.refl w).alloc _).trans g1
    rcases hp1 with ⟨o1, c1, rfl, he⟩ | ⟨b1, off1, c1, rfl, hpt, hm⟩
    · subst he
      exact absurd hpos (by simp)
    have HP := Lib.hid hpt
    clear hpt g1
    go_wp2_with fail
    refine (A2.out _ h1).mono ?_
    rintro e w2 ⟨rfl, g2'⟩
    have g2 := g2'.bl
    clear g2'
    replace k0 := g2.cell k0
    replace k1 := g2.cell k1
    replace k2 := g2.cell k2
    replace k3 := g2.cell k3
    replace k4 := g2.cell k4
    replace k5 := g2.cell k5
    replace k6 := g2.cell k6
    have h2 : Bl w w2 := h1.trans g2
    have HP2 := Lib.hid (HP.out.bl g2)
    clear g2 HP
    by_cases hax : ax = 0
    · subst hax
      by_cases hS : t < S
      · go_wp2_with fail
        go_returns
        exact ⟨by first | rfl | exact ret_bool (by simp; omega), h2⟩
      · have HLL := Lib.hid (HAA.out rfl (by omega) (-1))
        clear HAA
        go_wp2_with fail
        go_loopw [8, 40] (fun v8 v40 wr => ∃ kk : Nat, kk ≤ r1.length ∧ v40 = .int .i64 kk ∧ v8 = .int .i64 (lastL t (-1) (r1.take kk)) ∧ Bl w2 wr) (fun _ v40 _ => r1.length - (intOf v40).toNat)
        case atStart => exact ⟨0, Nat.zero_le _, rfl, rfl, Bl.refl _⟩
        case round =>
          obtain ⟨kk, hk, rfl, rfl, hb⟩ := hrel
          by_cases hlt : kk < r1.length
          · have hsn := last_take t r1 (-1) kk hlt
            obtain ⟨ct, cl, ep⟩ : ∃ a b, r1[kk]?.getD (0, 0) = (a, b) := ⟨_, _, rfl⟩
            obtain ⟨a1, a2⟩ := (HP2.out.bl hb) kk hlt
            rw [ep] at a1 a2 hsn
            simp only at a1 a2 hsn
            have b1 : (0 : Int) ≤ (kk : Int) := by omega
            have b2 : (kk : Int) < (r1.length : Int) := by omega
            clear ep
            by_cases hct : ct ≤ t
            · rw [if_pos hct] at hsn
              have HSN := Lib.hid hsn
              clear hsn
              go_wp2_with fail
              go_roundw
              case rel => exact ⟨kk + 1, by omega, by go_num, by rw [HSN.out], by ((repeat (first | with_reducible exact Bl.refl _ | with_reducible assumption | with_reducible refine Bl.drew ?_ | with_reducible refine Bl.alloc ?_ _ | (with_reducible refine Bl.setCell ?_ ?hs _; (case hs => (exact Bl.size (by ((repeat (first | with_reducible exact Bl.refl _ | with_reducible assumption | with_reducible refine Bl.drew ?_ | with_reducible refine Bl.alloc ?_ _ | with_reducible refine Bl.trans ?_ (by assumption))); done))))) | with_reducible refine Bl.trans ?_ (by assumption))); done)⟩
              case measure => simp [intOf]; omega
            · rw [if_neg hct] at hsn
              have HSN := Lib.hid hsn
              clear hsn
              go_wp2_with fail
              go_roundw
              case rel => exact ⟨kk + 1, by omega, by go_num, by rw [HSN.out], by ((repeat (first | with_reducible exact Bl.refl _ | with_reducible assumption | with_reducible refine Bl.drew ?_ | with_reducible refine Bl.alloc ?_ _ | (with_reducible refine Bl.setCell ?_ ?hs _; (case hs => (exact Bl.size (by ((repeat (first | with_reducible exact Bl.refl _ | with_reducible assumption | with_reducible refine Bl.drew ?_ | with_reducible refine Bl.alloc ?_ _ | with_reducible refine Bl.trans ?_ (by assumption))); done))))) | with_reducible refine Bl.trans ?_ (by assumption))); done)⟩
              case measure => simp [intOf]; omega
          · obtain rfl : kk = r1.length := by omega
            have hfin : lastL t (-1) (r1.take r1.length) = aa := by rw [List.take_length]; exact HLL.out
            rw [hfin]
            go_wp2
            go_returns
            exact ⟨by first | rfl | exact ret_bool (by simp), h2.trans hb⟩
    · have haxb : (ax != 0) = true := by simpa using hax
      clear HAA
      go_wp2_with fail
      go_returns
      exact ⟨by first | rfl | exact ret_bool (by simp; omega), h2⟩
  · have e := cs_bad hx
    rw [e] at A1
    have hxb : (csX F T S Dl Tm k l != 0) = true := by simpa using hx
    generalize csX F T S Dl Tm k l = y1 at *
    clear e hx
    go_enter Try.func12, Try.ntmps12
    go_wp2_with fail
    refine (A1.out _ ((Bl.refl w).alloc _)).mono ?_
    rintro e w1 ⟨v1, rfl, hp1, g1⟩
    rcases hp1 with ⟨o1, c1, rfl, _⟩ | ⟨b1, off1, c1, rfl, _, _⟩
    · go_wp2_with fail
      go_returns
      exact ⟨rfl, ((Bl.refl w).alloc _).trans g1⟩
    · go_wp2_with fail
      go_returns
      exact ⟨rfl, ((Bl.refl w).alloc _).trans g1⟩

theorem own : ownKnob Try.prog.godebug = none := by kernel_rfl
theorem laid : laidOutB Try.prog = true := by kernel_rfl

set_option maxRecDepth 100000 in
theorem lifted (os : Os) (started : os.Started) (H : Type) (enc : TypeId × Value → H) :
    ReturnsInHanded {} Try.checked os 12 .any (Rows.levelChangesAreTheFadeSpec.pre6 enc Try.prog Try.f12 Rows.levelChangesAreTheFadeRow.domain false) (Rows.levelChangesAreTheFadeSpec.post enc Try.prog Try.f12 false true false false) := by
  refine returnsInHanded_of_change (C := Try.checked) own started (by kernel_rfl) Try.func12
    (ChangeSpec.witness6 (enc := enc) (C := Try.checked) false ⟨#[], #[.agg #[.int .i64 0, .int .i64 0, .int .i64 0, .int .i64 0, .int .i64 0, .int .i64 0, .slice none 0 0], .int .i64 0], []⟩ 8 (by kernel_rfl) (by kernel_rfl) (by kernel_rfl) (by kernel_rfl)) ?_
  intro W base args ds gs before hval0 hW hcnd _
  have hval : ∀ (j : Nat) t v, Try.f12.params[j]? = some t → args[j]? = some v → Value.okWide Try.prog W .any base t v := hval0
  have hW' := hW
  obtain ⟨p, q, hA0, hV, rfl, hfz, hnd⟩ := hW
  have hA : DataW.TrodAll enc Try.prog W 0 (fun _ => true) true Try.f12.params.toList args.toList ds p := hA0
  rw [Try.params12] at hA hval
  obtain ⟨v0, vs0, d0, ds0, p0, q0, hargs, rfl, rfl, h0, r0⟩ := trodAll_cons hA
  obtain ⟨v1, vs1, d1, ds1, p1, q1, rfl, rfl, rfl, h1, r1⟩ := trodAll_cons r0
  obtain ⟨rfl, rfl, rfl⟩ := trodAll_nil r1
  obtain rfl : args = #[v0, v1] := by cases args; simp_all
  obtain ⟨rfl, rfl⟩ := trodVars_none hV
  obtain ⟨F0, T0, S0, Dl0, Tm0, k0, sv0, l0, rfl, wf0, hp0, wp0⟩ := open_fade (hval 0 46 v0 rfl rfl) h0
  obtain ⟨a1, rfl, rfl, rfl, w1⟩ := open_int Try.underlying3 (hval 1 3 v1 rfl rfl) h1
  clear hA0 hval0
  refine (walk F0 T0 S0 Dl0 Tm0 k0 a1 sv0 l0 W hp0).mono fun e W' ⟨he, hg⟩ => ?_
  subst he
  exact ⟨_, rfl, law_old hW' rfl rfl (by kernel_rfl) Try.underlying4 laid (by kernel_rfl) hg⟩

theorem over : Rows.levelChangesAreTheFadeRow.holds Try.pinned (OpenSpec.ofChange Rows.levelChangesAreTheFadeSpec) :=
  OpenClaim.holds_of_wide 12 Try.f12 rfl rfl rfl rfl rfl rfl rfl ⟨rfl, rfl, rfl, rfl, rfl⟩ rfl rfl rfl rfl rfl (by kernel_rfl) Try.func12 (by kernel_rfl)
    (of_decide_eq_true (by kernel_rfl)) (by unfold Func.isWrapper; first | (rw [if_pos (by decide +kernel)]; kernel_rfl) | (rw [if_neg (by decide +kernel)]; exact ⟨rfl, rfl⟩))
    (fun os started H enc _ => lifted os started H enc)

/-- The statement. -/
theorem proved : Rows.LevelChangesAreTheFadeSaid :=
  over
end Go.Proofs.Ytdnipbeggcfnbaa.arefade

