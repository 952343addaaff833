/- EffectChecksMatchSpec: Check, Text and Period answer as the reference does, for all effects, with no condition. The listed variables are tied to the program's text by the card. -/
import Derived.Test.YtkllhockcnokeaaDoorEfPer
import Derived.Test.YtkllhockcnokeaaDoorEfGw
import Derived.Test.YtkllhockcnokeaaDoorOpenEf
import Derived.SizedLaws
namespace Go.Proofs.YtkllhockcnokeaaDoor.effchecks
open Go.ChangeShapes Go.WideShapes Go.ChangeAt Go.RowKit Go.Sort Go.Lib

set_option maxRecDepth 100000 in
set_option maxHeartbeats 12800000 in
theorem walk (e : Eff) (sv : Value) (w : World) (hsv : StpVal w sv e.st) (hpw : PowAt w) (hfw : FwAt w) :
    Calls Tryd.prog 3 #[effV e sv] w fun r w' => r = .returned (.bool true) ∧ Bl w w' := by
  have H1 := Lib.hid (fun w' (m : Bl w w') => text_any e sv w' (hsv.bl m) (hpw.bl m) (hfw.bl m))
  have H2 := Lib.hid (fun w' (m : Bl w w') => textR_any e sv w' (hsv.bl m) (hpw.bl m))
  have H3 := Lib.hid (fun w' (m : Bl w w') => period_any e sv w' (hsv.bl m))
  have H4 := Lib.hid (fun w' (m : Bl w w') => periodR_any e sv w' (hsv.bl m))
  have H5 := Lib.hid (fun w' (m : Bl w w') => check_any e sv w' (hsv.bl m))
  have H6 := Lib.hid (fun w' (m : Bl w w') => checkR_any e sv w' (hsv.bl m))
  obtain ⟨o, cap, rfl, _, _⟩ := hsv
  clear hpw hfw
  unfold effV at *
  generalize bs (efS e) = S at H1 H2
  generalize perN e = N at H3 H4
  generalize perX e = X at H3 H4
  generalize ckE e = Y at H1 H2 H5 H6
  obtain ⟨W0, hW0⟩ : ∃ W0, W0 = w.alloc (.cells #[.int .i64 e.frm, .int .i64 e.lo, .int .i64 e.hi, .int .i64 e.cyc, .int .i64 e.wid, .int .i64 e.spr, .bool e.bk, .bool e.rl, .slice o e.st.length cap] 24) := ⟨_, rfl⟩
  have bW : Bl w W0 := by rw [hW0]; exact (Bl.refl w).alloc _
  have HA := Lib.hid (show EffAt W0 w.heap.size e (.slice o e.st.length cap) by rw [hW0]; exact EffAt.new _ _ _ _)
  have t1 : (Y == Y) = true := by simp
  have t2 : (X == X) = true := by simp
  have t3 : (S.toList == S.toList) = true := by simp
  have t4 : (N == N) = true := by simp
  obtain ⟨c0, c1, c2, c3, c4, c5, c6, c7, c8⟩ := HA.out
  go_enter Tryd.func3, Tryd.ntmps3
  go_wp2_with fail
  rw [← hW0]
  clear hW0
  have B := Lib.hid (Bl.refl W0)
  go_wp2_with fail
  refine (H1.out _ (bW.trans B.out)).mono ?_
  rintro r w1 ⟨rfl, m1⟩
  replace B := Lib.hid (B.out.trans m1)
  clear m1 c0 c1 c2 c3 c4 c5 c6 c7 c8
  obtain ⟨c0, c1, c2, c3, c4, c5, c6, c7, c8⟩ := HA.out.bl B.out
  go_wp2_with fail
  refine (H2.out _ (bW.trans B.out)).mono ?_
  rintro r w1 ⟨rfl, m1⟩
  replace B := Lib.hid (B.out.trans m1)
  clear m1 c0 c1 c2 c3 c4 c5 c6 c7 c8
  obtain ⟨c0, c1, c2, c3, c4, c5, c6, c7, c8⟩ := HA.out.bl B.out
  go_wp2_with fail
  refine (H3.out _ (bW.trans B.out)).mono ?_
  rintro r w1 ⟨rfl, m1⟩
  replace B := Lib.hid (B.out.trans m1)
  clear m1 c0 c1 c2 c3 c4 c5 c6 c7 c8
  obtain ⟨c0, c1, c2, c3, c4, c5, c6, c7, c8⟩ := HA.out.bl B.out
  go_wp2_with fail
  refine (H4.out _ (bW.trans B.out)).mono ?_
  rintro r w1 ⟨rfl, m1⟩
  replace B := Lib.hid (B.out.trans m1)
  clear m1 c0 c1 c2 c3 c4 c5 c6 c7 c8
  obtain ⟨c0, c1, c2, c3, c4, c5, c6, c7, c8⟩ := HA.out.bl B.out
  obtain ⟨wz, hwz⟩ : ∃ wz : World, wz = w1 := ⟨_, rfl⟩
  subst hwz
  have b2 : Bl w wz := bW.trans B.out
  have d0 := c0
  have d1 := c1
  have d2 := c2
  have d3 := c3
  have d4 := c4
  have d5 := c5
  have d6 := c6
  have d7 := c7
  have d8 := c8
  go_wp2_with fail
  go_region_held3 (fun w' => w'.cell? ⟨w.heap.size, 0, none⟩ = some (.int .i64 e.frm) ∧ w'.cell? ⟨w.heap.size, 1, none⟩ = some (.int .i64 e.lo) ∧ w'.cell? ⟨w.heap.size, 2, none⟩ = some (.int .i64 e.hi) ∧ w'.cell? ⟨w.heap.size, 3, none⟩ = some (.int .i64 e.cyc) ∧ w'.cell? ⟨w.heap.size, 4, none⟩ = some (.int .i64 e.wid) ∧ w'.cell? ⟨w.heap.size, 5, none⟩ = some (.int .i64 e.spr) ∧ w'.cell? ⟨w.heap.size, 6, none⟩ = some (.bool e.bk) ∧ w'.cell? ⟨w.heap.size, 7, none⟩ = some (.bool e.rl) ∧ w'.cell? ⟨w.heap.size, 8, none⟩ = some (.slice o e.st.length cap))
    (refine ⟨Bl.cell (w := wz) ?_ d0, Bl.cell (w := wz) ?_ d1, Bl.cell (w := wz) ?_ d2, Bl.cell (w := wz) ?_ d3, Bl.cell (w := wz) ?_ d4, Bl.cell (w := wz) ?_ d5, Bl.cell (w := wz) ?_ d6, Bl.cell (w := wz) ?_ d7, Bl.cell (w := wz) ?_ d8⟩ <;> ((repeat (first | with_reducible exact Bl.refl _ | with_reducible assumption | with_reducible refine Bl.drew ?_ | with_reducible refine Bl.alloc ?_ _ | with_reducible refine Bl.trans ?_ (by assumption))); done))
    (first
      | (go_at_call 9; (with_reducible refine (H5.out _ (b2.trans (by ((repeat (first | with_reducible exact Bl.refl _ | with_reducible assumption | with_reducible refine Bl.drew ?_ | with_reducible refine Bl.alloc ?_ _ | with_reducible refine Bl.trans ?_ (by assumption))); done)))).mono ?_); rintro e' w6 ⟨rfl, m6⟩)
      | (go_at_call 10; (with_reducible refine (H6.out _ (b2.trans (by ((repeat (first | with_reducible exact Bl.refl _ | with_reducible assumption | with_reducible refine Bl.drew ?_ | with_reducible refine Bl.alloc ?_ _ | with_reducible refine Bl.trans ?_ (by assumption))); done)))).mono ?_); rintro e' w7 ⟨rfl, m7⟩))
  go_wp2_with fail
  go_returns
  exact ⟨rfl, b2.trans (by ((repeat (first | with_reducible exact Bl.refl _ | with_reducible assumption | with_reducible refine Bl.drew ?_ | with_reducible refine Bl.alloc ?_ _ | with_reducible refine Bl.trans ?_ (by assumption))); done))⟩

theorem own : ownKnob Tryd.prog.godebug = none := by kernel_rfl
theorem laid : laidOutB Tryd.prog = true := by kernel_rfl

set_option maxRecDepth 100000 in
theorem lifted (os : Os) (started : os.Started) (H : Type) (enc : TypeId × Value → H) :
    ReturnsInHanded {} Tryd.checked os 3 .any (fun w args => (Rows.effectChecksMatchSpecSpec.pre enc Tryd.prog Tryd.f3 Rows.effectChecksMatchSpecRow.domain false w args ∧ laidMetH Tryd.prog Rows.effectChecksMatchSpecRow.laid w) ∧ sizedMet enc Tryd.prog Tryd.f3 (OpenSpec.ofChange Rows.effectChecksMatchSpecSpec) false w args) (Rows.effectChecksMatchSpecSpec.post enc Tryd.prog Tryd.f3 false true false false) := by
  refine lift_tied (C := Tryd.checked) (X := fun w _ => laidMetH Tryd.prog Rows.effectChecksMatchSpecRow.laid w) (fun _ _ _ hh h => h.of_heap hh) own started (by kernel_rfl) Tryd.func3
    (ChangeSpec.witness_shaped (enc := enc) (C := Tryd.checked) (os := os) (X := fun w _ => laidMetH Tryd.prog Rows.effectChecksMatchSpecRow.laid w) false (World.laidAll Tryd.prog os Rows.effectChecksMatchSpecRow.laid) #[.agg #[.int .i64 0, .int .i64 0, .int .i64 0, .int .i64 0, .int .i64 0, .int .i64 0, .bool false, .bool false, .slice none 0 0]] 8 (World.laidAll_os _ _ _)
      (World.shaped_of_ZipB (by kernel_rfl) (by kernel_rfl)) (by kernel_rfl) (by kernel_rfl) (by kernel_rfl)
      (by rw [MakeChecks.laidMetH_plain _ _ _ (by kernel_rfl)]; exact laidMet_laidAll _ (by kernel_rfl) (by kernel_rfl))) ?_
  intro W base args ds gs before hval0 hW hsz0 hL0 hsh
  have hL : laidMetH Tryd.prog Rows.effectChecksMatchSpecRow.laid W := hL0
  rw [MakeChecks.laidMetH_plain _ _ _ (by kernel_rfl)] at hL
  have hp0 := pow_atG hL.tail.tail
  have hf0 := fw_at hL.tail.tail.tail
  have hval : ∀ (j : Nat) t v, Tryd.f3.params[j]? = some t → args[j]? = some v → Value.okWide Tryd.prog W .any base t v := hval0
  have hW' := hW
  obtain ⟨p, q, hA0, hV, rfl, hfz, hnd⟩ := hW
  have hA : DataW.TrodAll enc Tryd.prog W 0 (fun _ => true) true Tryd.f3.params.toList args.toList ds p := hA0
  rw [Tryd.params3] at hA hval
  obtain ⟨v0, vs0, d0, ds0, p0, q0, hargs, rfl, rfl, h0, r0⟩ := trodAll_cons hA
  obtain ⟨rfl, rfl, rfl⟩ := trodAll_nil r0
  obtain rfl : args = #[v0] := by cases args; simp_all
  obtain ⟨rfl, rfl⟩ := trodVars_none hV
  obtain ⟨e0, sv0, rfl, hv0, hw0⟩ := open_eff (hval 0 24 v0 rfl rfl) h0
  clear hA0 hval0
  refine (walk e0 sv0 W hv0 hp0 hf0).mono fun e W' ⟨he, hg⟩ => ?_
  subst he
  exact ⟨_, rfl, law_old hW' rfl rfl (by kernel_rfl) Tryd.underlying4 laid (by kernel_rfl) hg⟩

theorem over : Rows.effectChecksMatchSpecRow.holds Tryd.pinned (OpenSpec.ofChange Rows.effectChecksMatchSpecSpec) :=
  OpenClaim.holds_of_wide 3 Tryd.f3 rfl rfl rfl rfl rfl rfl rfl ⟨rfl, rfl, rfl, rfl, rfl⟩ rfl rfl rfl rfl rfl (by kernel_rfl) Tryd.func3 (by kernel_rfl)
    (of_decide_eq_true (by kernel_rfl)) (by unfold Func.isWrapper; first | (rw [if_pos (by decide +kernel)]; kernel_rfl) | (rw [if_neg (by decide +kernel)]; exact ⟨rfl, rfl⟩))
    (fun os started H enc _ => lifted os started H enc)

/-- The card: the statement. -/
theorem proved : Rows.EffectChecksMatchSpecCardSaid :=
  Claim7.holds_tied_plain_at .later [] [.data, .data, .data, .data] true (true, "18cd26c6c0aad006c963f31e38b5e8d6e21a318dd86e3c2d59b7160d5094bcd8") false over (fun _ h => by cases h) (by kernel_rfl) (fun _ h => by cases h) effectChecksMatchSpec_row_tie rfl ⟨rfl, rfl⟩ (by kernel_rfl) rfl
    (fun f fn hf hfn => by
      obtain rfl : f = 3 := Option.some.inj ((show Tryd.prog.funcNamed "cyclorama/cycloramalaw7.EffectChecksMatchSpec" = some 3 by kernel_rfl).symm.trans hf) |>.symm
      obtain rfl : fn = Tryd.f3 := (Option.some.inj (Tryd.func3.symm.trans hfn)).symm
      exact ⟨by kernel_rfl, fun j t ht => by
        rw [Tryd.params3] at ht
        have hm := Array.mem_of_getElem? ht
        have hall : ((#[24] : Array TypeId).toList.all fun u => !Tryd.prog.wantsStandIn u) = true := by kernel_rfl
        exact (show Tryd.prog.wantsStandIn t = false by simpa using List.all_eq_true.1 hall t (by simpa using hm))⟩)
    (by kernel_rfl)
end Go.Proofs.YtkllhockcnokeaaDoor.effchecks

