/- ColourDrivesStayWithin, closed: for all emitters and colours, with no condition. The listed variables are tied to the program's text by the card; the proof reads none of them. -/
import Derived.Test.YtdmpdcggepfaiaaDoorCardL
import Derived.Test.YtdmpdcggepfaiaaDoorWithin
import Derived.SizedLaws
namespace Go.Proofs.YtdmpdcggepfaiaaDoor.within
open Go.ChangeShapes Go.WideShapes Go.ChangeAt Go.RowKit Go.Lib

theorem walk (v : Value) (L : List Em) (r g bb : Int) (w : World) (hv : EmVal w v L) (hok : EmsOk L) :
    Calls Tryd.prog 9 #[v, .agg #[.int .i64 r, .int .i64 g, .int .i64 bb]] w fun e w' => e = .returned (.bool true) ∧ Bl w w' := by
  by_cases h : ckAll L = 0
  · cases hc : isCol r g bb with
    | false => exact walk_err v L r g bb 1 w hv (by decide) (fun w' m => drive_col v L r g bb w' (hv.bl m) hok h hc)
    | true =>
      obtain ⟨h0, _, _⟩ := ckAll_ok h
      obtain ⟨o, cap, rfl, _, hp⟩ := hv
      obtain ⟨b, off, rfl, hL⟩ := hp h0
      exact walk_ok b off cap L r g bb w hL hok h hc
  · exact walk_err v L r g bb (ckAll L) w hv h (fun w' m => drive_err v L r g bb w' (hv.bl m) hok h)

theorem own : ownKnob Tryd.prog.godebug = none := by kernel_rfl
theorem laid : laidOutB Tryd.prog = true := by kernel_rfl

set_option maxRecDepth 100000 in
theorem lifted (os : Os) (started : os.Started) (H : Type) (enc : TypeId × Value → H) :
    ReturnsInHanded {} Tryd.checked os 9 .any (fun w args => (Rows.colourDrivesStayWithinSpec.pre enc Tryd.prog Tryd.f9 Rows.colourDrivesStayWithinRow.domain false w args ∧ laidMetH Tryd.prog Rows.colourDrivesStayWithinRow.laid w) ∧ sizedMet enc Tryd.prog Tryd.f9 (OpenSpec.ofChange Rows.colourDrivesStayWithinSpec) false w args) (Rows.colourDrivesStayWithinSpec.post enc Tryd.prog Tryd.f9 false true false false) := by
  refine lift_tied (C := Tryd.checked) (X := fun w _ => laidMetH Tryd.prog Rows.colourDrivesStayWithinRow.laid w) (fun _ _ _ hh h => h.of_heap hh) own started (by kernel_rfl) Tryd.func9
    (ChangeSpec.witness_shaped (enc := enc) (C := Tryd.checked) (os := os) (X := fun w _ => laidMetH Tryd.prog Rows.colourDrivesStayWithinRow.laid w) false (World.laidAll Tryd.prog os Rows.colourDrivesStayWithinRow.laid) #[.slice none 0 0, .agg #[.int .i64 0, .int .i64 0, .int .i64 0]] 8 (World.laidAll_os _ _ _)
      (World.shaped_of_ZipB (by kernel_rfl) (by kernel_rfl)) (by kernel_rfl) (by kernel_rfl) (by kernel_rfl)
      (by rw [MakeChecks.laidMetH_plain _ _ _ (by kernel_rfl)]; exact laidMet_laidAll _ (by kernel_rfl) (by kernel_rfl))) ?_
  intro W base args ds gs before hval0 hW hsz0 hL0 hsh
  have hval : ∀ (j : Nat) t v, Tryd.f9.params[j]? = some t → args[j]? = some v → Value.okWide Tryd.prog W .any base t v := hval0
  have hW' := hW
  obtain ⟨p, q, hA0, hV, rfl, hfz, hnd⟩ := hW
  have hA : DataW.TrodAll enc Tryd.prog W 0 (fun _ => true) true Tryd.f9.params.toList args.toList ds p := hA0
  rw [Tryd.params9] at hA hval
  obtain ⟨v0, vs0, d0, ds0, p0, q0, hargs, rfl, rfl, h0, r0⟩ := trodAll_cons hA
  obtain ⟨v1, vs1, d1, ds1, p1, q1, rfl, rfl, rfl, h1, r1⟩ := trodAll_cons r0
  obtain ⟨rfl, rfl, rfl⟩ := trodAll_nil r1
  obtain rfl : args = #[v0, v1] := by cases args; simp_all
  obtain ⟨rfl, rfl⟩ := trodVars_none hV
  obtain ⟨L0, he0, ho0⟩ := open_emitters (hval 0 46 v0 rfl rfl) h0
  obtain ⟨cr1, cg1, cb1, rfl⟩ := open_colE (hval 1 23 v1 rfl rfl) h1
  clear hA0 hval0
  refine (walk v0 L0 cr1 cg1 cb1 W he0 ho0).mono fun e W' ⟨he, hg⟩ => ?_
  subst he
  exact ⟨_, rfl, law_old hW' rfl rfl (by kernel_rfl) Tryd.underlying4 laid (by kernel_rfl) hg⟩

theorem over : Rows.colourDrivesStayWithinRow.holds Tryd.pinned (OpenSpec.ofChange Rows.colourDrivesStayWithinSpec) :=
  OpenClaim.holds_of_wide 9 Tryd.f9 rfl rfl rfl rfl rfl rfl rfl ⟨rfl, rfl, rfl, rfl, rfl⟩ rfl rfl rfl rfl rfl (by kernel_rfl) Tryd.func9 (by kernel_rfl)
    (of_decide_eq_true (by kernel_rfl)) (by unfold Func.isWrapper; first | (rw [if_pos (by decide +kernel)]; kernel_rfl) | (rw [if_neg (by decide +kernel)]; exact ⟨rfl, rfl⟩))
    (fun os started H enc _ => lifted os started H enc)

/-- The card: the statement. -/
theorem proved : Rows.ColourDrivesStayWithinCardSaid :=
  Claim7.holds_tied_plain_at .later [] [.data, .pinned] true (true, "b3e2055a5b77432e26773dce101c4a1d69065d20e0b59a90875a8130fbd1754b") true over (fun _ h => by cases h) (by kernel_rfl) (fun _ h => by cases h) colourDrivesStayWithin_row_tie rfl ⟨rfl, rfl⟩ (by kernel_rfl) rfl
    (fun f fn hf hfn => by
      obtain rfl : f = 9 := Option.some.inj ((show Tryd.prog.funcNamed "cyclorama/cycloramalaw3.ColourDrivesStayWithin" = some 9 by kernel_rfl).symm.trans hf) |>.symm
      obtain rfl : fn = Tryd.f9 := (Option.some.inj (Tryd.func9.symm.trans hfn)).symm
      exact ⟨by kernel_rfl, fun j t ht => by
        rw [Tryd.params9] at ht
        have hm := Array.mem_of_getElem? ht
        have hall : ((#[46, 23] : Array TypeId).toList.all fun u => !Tryd.prog.wantsStandIn u) = true := by kernel_rfl
        exact (show Tryd.prog.wantsStandIn t = false by simpa using List.all_eq_true.1 hall t (by simpa using hm))⟩)
    (by kernel_rfl)
end Go.Proofs.YtdmpdcggepfaiaaDoor.within

