/- PickChecksMatchSpec: Check and Print answer as the reference does, for all selections, with no condition. The listed variables are tied to the program's text by the card. -/
import Derived.Test.YtgpblgalklegkaaDoorPrt
import Derived.Test.YtgpblgalklegkaaDoorOpenK
import Derived.Test.YtgpblgalklegkaaDoorTabK
import Derived.Test.YtgpblgalklegkaaDoorCardL
import Derived.SizedLaws
import Derived.Deep.RegionHeld3
namespace Go.Proofs.YtgpblgalklegkaaDoor.pickchecks
open Go.ChangeShapes Go.WideShapes Go.ChangeAt Go.RowKit Go.Sort Go.Lib

set_option maxRecDepth 100000 in
set_option maxHeartbeats 6400000 in
theorem walk (p : Pk) (sv : Value) (w : World) (hsv : PkV w sv p.args) (hpw : PowAt w) (hkw : KwAt w) (hsh : ShAt w) :
    Calls Tryd.prog 3 #[.agg #[.int .i64 p.kind, .int .i64 p.frm, .int .i64 p.to, sv]] w fun e w' => e = .returned (.bool true) ∧ Bl w w' := by
  have H1 := Lib.hid (fun w' (m : Bl w w') => print_any p sv w' (hsv.bl m) (hpw.bl m) (hkw.bl m) (hsh.bl m))
  have H2 := Lib.hid (fun w' (m : Bl w w') => print_ref p sv w' (hsv.bl m) (hpw.bl m))
  have H3 := Lib.hid (fun w' (m : Bl w w') => check_pick p sv w' (hsv.bl m) (hsh.bl m))
  have H4 := Lib.hid (fun w' (m : Bl w w') => check_pref p sv w' (hsv.bl m))
  obtain ⟨o, cap, rfl, _⟩ := hsv.form
  clear hsv hpw hkw hsh
  generalize bs (prT p) = S at H1 H2
  generalize prX p = X at H1 H2
  generalize ckP p = Y at H3 H4
  generalize p.kind = k at *
  generalize p.frm = f at *
  generalize p.to = t at *
  generalize p.args.length = n at *
  obtain ⟨W0, hW0⟩ : ∃ W0, W0 = w.alloc (.cells #[.int .i64 k, .int .i64 f, .int .i64 t, .slice o n cap] 24) := ⟨_, rfl⟩
  have bW : Bl w W0 := by rw [hW0]; exact (Bl.refl w).alloc _
  have KK := Lib.hid (fun w' (m : Bl W0 w') => show w'.cell? ⟨w.heap.size, 0, none⟩ = some (.int .i64 k) ∧ w'.cell? ⟨w.heap.size, 1, none⟩ = some (.int .i64 f) ∧ w'.cell? ⟨w.heap.size, 2, none⟩ = some (.int .i64 t) ∧ w'.cell? ⟨w.heap.size, 3, none⟩ = some (.slice o n cap) from ⟨m.cell (by rw [hW0]; simp), m.cell (by rw [hW0]; simp), m.cell (by rw [hW0]; simp), m.cell (by rw [hW0]; simp)⟩)
  have t1 : (Y == Y) = true := by simp
  have t2 : (X == X) = true := by simp
  have t3 : (S.toList == S.toList) = true := by simp
  go_enter Tryd.func3, Tryd.ntmps3
  go_wp2_with fail
  rw [← hW0]
  clear hW0
  refine (H1.out _ bW).mono ?_
  rintro e w1 ⟨rfl, m1⟩
  obtain ⟨k0, k1, k2, k3⟩ := KK.out _ m1
  go_wp2_with fail
  refine (H2.out _ (bW.trans m1)).mono ?_
  rintro e w2 ⟨rfl, m2⟩
  clear k0 k1 k2 k3
  obtain ⟨k0, k1, k2, k3⟩ := KK.out _ (m1.trans m2)
  have cw0 := k0
  have cw1 := k1
  have cw2 := k2
  have cw3 := k3
  have b2 : Bl w w2 := bW.trans (m1.trans m2)
  go_wp2_with fail
  go_region_held3 (fun w' => w'.cell? ⟨w.heap.size, 0, none⟩ = some (.int .i64 k) ∧ w'.cell? ⟨w.heap.size, 1, none⟩ = some (.int .i64 f) ∧ w'.cell? ⟨w.heap.size, 2, none⟩ = some (.int .i64 t) ∧ w'.cell? ⟨w.heap.size, 3, none⟩ = some (.slice o n cap))
    (refine ⟨Bl.cell (w := w2) ?_ cw0, Bl.cell (w := w2) ?_ cw1, Bl.cell (w := w2) ?_ cw2, Bl.cell (w := w2) ?_ cw3⟩ <;> ((repeat (first | with_reducible exact Bl.refl _ | with_reducible assumption | with_reducible refine Bl.drew ?_ | with_reducible refine Bl.alloc ?_ _ | with_reducible refine Bl.trans ?_ (by assumption))); done))
    (first
      | (go_at_call 10; (with_reducible refine (H3.out _ (b2.trans (by ((repeat (first | with_reducible exact Bl.refl _ | with_reducible assumption | with_reducible refine Bl.drew ?_ | with_reducible refine Bl.alloc ?_ _ | with_reducible refine Bl.trans ?_ (by assumption))); done)))).mono ?_); rintro e' w6 ⟨rfl, m6⟩)
      | (go_at_call 11; (with_reducible refine (H4.out _ (b2.trans (by ((repeat (first | with_reducible exact Bl.refl _ | with_reducible assumption | with_reducible refine Bl.drew ?_ | with_reducible refine Bl.alloc ?_ _ | with_reducible refine Bl.trans ?_ (by assumption))); done)))).mono ?_); rintro e' w7 ⟨rfl, m7⟩))
  go_wp2_with fail
  go_returns
  exact ⟨rfl, b2.trans (by ((repeat (first | with_reducible exact Bl.refl _ | with_reducible assumption | with_reducible refine Bl.drew ?_ | with_reducible refine Bl.alloc ?_ _ | with_reducible refine Bl.trans ?_ (by assumption))); done))⟩

theorem own : ownKnob Tryd.prog.godebug = none := by kernel_rfl
theorem laid : laidOutB Tryd.prog = true := by kernel_rfl

set_option maxRecDepth 100000 in
theorem lifted (os : Os) (started : os.Started) (H : Type) (enc : TypeId × Value → H) :
    ReturnsInHanded {} Tryd.checked os 3 .any (fun w args => (Rows.pickChecksMatchSpecSpec.pre enc Tryd.prog Tryd.f3 Rows.pickChecksMatchSpecRow.domain false w args ∧ laidMetH Tryd.prog Rows.pickChecksMatchSpecRow.laid w) ∧ sizedMet enc Tryd.prog Tryd.f3 (OpenSpec.ofChange Rows.pickChecksMatchSpecSpec) false w args) (Rows.pickChecksMatchSpecSpec.post enc Tryd.prog Tryd.f3 false true false false) := by
  refine lift_tied (C := Tryd.checked) (X := fun w _ => laidMetH Tryd.prog Rows.pickChecksMatchSpecRow.laid w) (fun _ _ _ hh h => h.of_heap hh) own started (by kernel_rfl) Tryd.func3
    (ChangeSpec.witness_shaped (enc := enc) (C := Tryd.checked) (os := os) (X := fun w _ => laidMetH Tryd.prog Rows.pickChecksMatchSpecRow.laid w) false (World.laidAll Tryd.prog os Rows.pickChecksMatchSpecRow.laid) #[.agg #[.int .i64 0, .int .i64 0, .int .i64 0, .slice none 0 0]] 8 (World.laidAll_os _ _ _)
      (World.shaped_of_ZipB (by kernel_rfl) (by kernel_rfl)) (by kernel_rfl) (by kernel_rfl) (by kernel_rfl)
      (by rw [MakeChecks.laidMetH_plain _ _ _ (by kernel_rfl)]; exact laidMet_laidAll _ (by kernel_rfl) (by kernel_rfl))) ?_
  intro W base args ds gs before hval0 hW hsz0 hL0 hsh
  have hL : laidMetH Tryd.prog Rows.pickChecksMatchSpecRow.laid W := hL0
  rw [MakeChecks.laidMetH_plain _ _ _ (by kernel_rfl)] at hL
  have hp0 := pow_at hL.tail.tail
  have hs0 := sh_at hL.tail.tail.tail
  have hk0 := kw_at hL.tail.tail.tail.tail
  have hval : ∀ (j : Nat) t v, Tryd.f3.params[j]? = some t → args[j]? = some v → Value.okWide Tryd.prog W .any base t v := hval0
  have hW' := hW
  obtain ⟨p, q, hA0, hV, rfl, hfz, hnd⟩ := hW
  have hA : DataW.TrodAll enc Tryd.prog W 0 (fun _ => true) true Tryd.f3.params.toList args.toList ds p := hA0
  rw [Tryd.params3] at hA hval
  obtain ⟨v0, vs0, d0, ds0, p0, q0, hargs, rfl, rfl, h0, r0⟩ := trodAll_cons hA
  obtain ⟨rfl, rfl, rfl⟩ := trodAll_nil r0
  obtain rfl : args = #[v0] := by cases args; simp_all
  obtain ⟨rfl, rfl⟩ := trodVars_none hV
  obtain ⟨q0, sv0, rfl, hv0⟩ := open_pick (hval 0 24 v0 rfl rfl) h0
  clear hA0 hval0
  refine (walk q0 sv0 W hv0 hp0 hk0 hs0).mono fun e W' ⟨he, hg⟩ => ?_
  subst he
  exact ⟨_, rfl, law_old hW' rfl rfl (by kernel_rfl) Tryd.underlying4 laid (by kernel_rfl) hg⟩

theorem over : Rows.pickChecksMatchSpecRow.holds Tryd.pinned (OpenSpec.ofChange Rows.pickChecksMatchSpecSpec) :=
  OpenClaim.holds_of_wide 3 Tryd.f3 rfl rfl rfl rfl rfl rfl rfl ⟨rfl, rfl, rfl, rfl, rfl⟩ rfl rfl rfl rfl rfl (by kernel_rfl) Tryd.func3 (by kernel_rfl)
    (of_decide_eq_true (by kernel_rfl)) (by unfold Func.isWrapper; first | (rw [if_pos (by decide +kernel)]; kernel_rfl) | (rw [if_neg (by decide +kernel)]; exact ⟨rfl, rfl⟩))
    (fun os started H enc _ => lifted os started H enc)

/-- The card: the statement. -/
theorem proved : Rows.PickChecksMatchSpecCardSaid :=
  Claim7.holds_tied_plain_at .later [] [.data, .data, .data, .data, .data] true (true, "e8817cdc2348f4206aa89ba055e2268bd6d8d8a645910e2e175fad989fb39eb2") true over (fun _ h => by cases h) (by kernel_rfl) (fun _ h => by cases h) pickChecksMatchSpec_row_tie rfl ⟨rfl, rfl⟩ (by kernel_rfl) rfl
    (fun f fn hf hfn => by
      obtain rfl : f = 3 := Option.some.inj ((show Tryd.prog.funcNamed "cyclorama/cycloramalaw4.PickChecksMatchSpec" = some 3 by kernel_rfl).symm.trans hf) |>.symm
      obtain rfl : fn = Tryd.f3 := (Option.some.inj (Tryd.func3.symm.trans hfn)).symm
      exact ⟨by kernel_rfl, fun j t ht => by
        rw [Tryd.params3] at ht
        have hm := Array.mem_of_getElem? ht
        have hall : ((#[24] : Array TypeId).toList.all fun u => !Tryd.prog.wantsStandIn u) = true := by kernel_rfl
        exact (show Tryd.prog.wantsStandIn t = false by simpa using List.all_eq_true.1 hall t (by simpa using hm))⟩)
    (by kernel_rfl)
end Go.Proofs.YtgpblgalklegkaaDoor.pickchecks

