/- ColourEmittersMatchSpec: CheckEmitters, Given and Drive answer as the reference does, for all emitters, levels and colours, with no condition. The listed variables are tied to the program's text by the card; the proof reads none of them. -/
import Derived.Test.YtdmpdcggepfaiaaDoorOpenL
import Derived.Test.YtdmpdcggepfaiaaDoorCardL
import Derived.SizedLaws
namespace Go.Proofs.YtdmpdcggepfaiaaDoor.emitters
open Go.ChangeShapes Go.WideShapes Go.ChangeAt Go.RowKit Go.Sort Go.Lib

set_option maxRecDepth 100000 in
set_option maxHeartbeats 6400000 in
theorem walk (v vl : Value) (L : List Em) (xs : List Int) (r g b : Int) (w : World) (hv : EmVal w v L) (hl : LvVal w vl xs) (hf : Fits v) (hok : EmsOk L) :
    Calls Tryd.prog 8 #[v, vl, .agg #[.int .i64 r, .int .i64 g, .int .i64 b]] w fun e w' => e = .returned (.bool true) ∧ Bl w w' := by
  obtain ⟨a1, a2, a3, X, h1, h2⟩ := given_both v vl L xs w hv hl hf hok
  obtain ⟨ls, x, y, z, Y, h3, h4⟩ := drive_both v L r g b w hv hf hok
  have h5 := fun w' (m : Bl w w') => checkEms_all v L w' (hv.bl m) hok
  have h6 := fun w' (m : Bl w w') => checkEms_ref v L w' (hv.bl m) hf hok
  generalize ckAll L = Z at h5 h6
  have H1 := Lib.hid h1
  have H2 := Lib.hid h2
  have H3 := Lib.hid h3
  have H4 := Lib.hid h4
  have H5 := Lib.hid h5
  have H6 := Lib.hid h6
  clear h1 h2 h3 h4 h5 h6 hf hok
  obtain ⟨o, cap, rfl, _, _⟩ := hv
  obtain ⟨o2, cap2, rfl, _, _⟩ := hl
  have hW : Bl w (w.alloc (.cells #[.int .i64 r, .int .i64 g, .int .i64 b] 23)) := (Bl.refl w).alloc _
  have HK := Lib.hid (fun w' (m : Bl (w.alloc (.cells #[.int .i64 r, .int .i64 g, .int .i64 b] 23)) w') => (Cel3.new w 23 r g b).bl m)
  go_enter Tryd.func8, Tryd.ntmps8
  go_wp2_with fail
  refine (H1.out _ hW).mono ?_
  rintro e w1 ⟨rfl, m1⟩
  go_wp2_with fail
  refine (H2.out _ ((hW.trans m1).alloc _)).mono ?_
  rintro e w2 ⟨rfl, m2⟩
  have k1 : Cel3 w2 w1.heap.size a1 a2 a3 := (Cel3.new w1 23 a1 a2 a3).bl m2
  have b2 : Bl w w2 := ((hW.trans m1).alloc _).trans m2
  have j2 : Bl (w.alloc (.cells #[.int .i64 r, .int .i64 g, .int .i64 b] 23)) w2 := (m1.alloc _).trans m2
  have hz1 := k1.lt
  obtain ⟨c0, c1, c2⟩ := k1
  go_wp2_with fail
  refine (H5.out _ (b2.alloc _)).mono ?_
  rintro e w3 ⟨rfl, m3⟩
  clear c0 c1 c2
  have b3 : Bl w w3 := (b2.alloc _).trans m3
  have j3 := (j2.alloc _).trans m3
  go_wp2_with fail
  refine (H6.out _ b3).mono ?_
  rintro e w4 ⟨rfl, m4⟩
  have b4 : Bl w w4 := b3.trans m4
  have k1 : Cel3 w4 w1.heap.size a1 a2 a3 := (Cel3.new w1 23 a1 a2 a3).bl (m2.trans (((Bl.refl _).alloc _).trans (m3.trans m4)))
  have k2 : Cel3 w4 w2.heap.size a1 a2 a3 := (Cel3.new w2 23 a1 a2 a3).bl (m3.trans m4)
  have k3 : Cel3 w4 w.heap.size r g b := HK.out _ (j3.trans m4)
  obtain ⟨c0, c1, c2⟩ := k1
  obtain ⟨d0, d1, d2⟩ := k2
  obtain ⟨e0, e1, e2⟩ := k3
  have t1 : (Z != Z) = false := by simp
  have t2 : (X != X) = false := by simp
  have t3 : (a1 == a1) = true := by simp
  have t4 : (a2 == a2) = true := by simp
  have t5 : (a3 == a3) = true := by simp
  go_wp2_with fail
  refine (H3.out _ b4).mono ?_
  rintro e w5 ⟨u, rfl, s5, m5⟩
  have b5 : Bl w w5 := b4.trans m5
  have k3 : Cel3 w5 w.heap.size r g b := HK.out _ ((j3.trans m4).trans m5)
  have hz3 := k3.lt
  clear e0 e1 e2 c0 c1 c2 d0 d1 d2
  obtain ⟨e0, e1, e2⟩ := k3
  obtain ⟨o5, cp5, hu5⟩ : ∃ o c, u = .slice o ls.length c := by obtain ⟨o, c, h, _⟩ := s5; exact ⟨o, c, h⟩
  subst hu5
  have S5 := Lib.hid s5
  clear s5
  go_wp2_with fail
  refine (H4.out _ (b5.alloc _)).mono ?_
  rintro e w6 ⟨u', rfl, s6, m6⟩
  obtain ⟨o6, cp6, hu6⟩ : ∃ o c, u' = .slice o ls.length c := by obtain ⟨o, c, h, _⟩ := s6; exact ⟨o, c, h⟩
  subst hu6
  have b6 : Bl w w6 := (b5.alloc _).trans m6
  have S6 := Lib.hid (s6.bl ((Bl.refl w6).alloc (.cells #[.int .i64 x, .int .i64 y, .int .i64 z] 23)))
  have S5' := Lib.hid (S5.out.bl ((((Bl.refl _).alloc (.cells #[.int .i64 x, .int .i64 y, .int .i64 z] 23)).trans m6).alloc (.cells #[.int .i64 x, .int .i64 y, .int .i64 z] 23)))
  have k1 : Cel3 w6 w5.heap.size x y z := (Cel3.new w5 23 x y z).bl m6
  have hz5 := k1.lt
  clear s6 e0 e1 e2
  have HE := Lib.hid (equal_ints _ _ ls _ S5'.out S6.out)
  go_wp2_with fail
  refine HE.out.mono ?_
  rintro e w7 ⟨rfl, m7⟩
  obtain ⟨c0, c1, c2⟩ := k1.bl (((Bl.refl w6).alloc _).trans m7)
  obtain ⟨d0, d1, d2⟩ := (Cel3.new w6 23 x y z).bl m7
  have t6 : (x == x) = true := by simp
  have t7 : (y == y) = true := by simp
  have t8 : (z == z) = true := by simp
  have t9 : (Y == Y) = true := by simp
  go_wp2_with fail
  go_returns
  exact ⟨rfl, (b6.alloc _).trans m7⟩

theorem own : ownKnob Tryd.prog.godebug = none := by kernel_rfl
theorem laid : laidOutB Tryd.prog = true := by kernel_rfl

set_option maxRecDepth 100000 in
theorem lifted (os : Os) (started : os.Started) (H : Type) (enc : TypeId × Value → H) :
    ReturnsInHanded {} Tryd.checked os 8 .any (fun w args => (Rows.colourEmittersMatchSpecSpec.pre enc Tryd.prog Tryd.f8 Rows.colourEmittersMatchSpecRow.domain false w args ∧ laidMetH Tryd.prog Rows.colourEmittersMatchSpecRow.laid w) ∧ sizedMet enc Tryd.prog Tryd.f8 (OpenSpec.ofChange Rows.colourEmittersMatchSpecSpec) false w args) (Rows.colourEmittersMatchSpecSpec.post enc Tryd.prog Tryd.f8 false true false false) := by
  refine lift_tied (C := Tryd.checked) (X := fun w _ => laidMetH Tryd.prog Rows.colourEmittersMatchSpecRow.laid w) (fun _ _ _ hh h => h.of_heap hh) own started (by kernel_rfl) Tryd.func8
    (ChangeSpec.witness_shaped (enc := enc) (C := Tryd.checked) (os := os) (X := fun w _ => laidMetH Tryd.prog Rows.colourEmittersMatchSpecRow.laid w) false (World.laidAll Tryd.prog os Rows.colourEmittersMatchSpecRow.laid) #[.slice none 0 0, .slice none 0 0, .agg #[.int .i64 0, .int .i64 0, .int .i64 0]] 8 (World.laidAll_os _ _ _)
      (World.shaped_of_ZipB (by kernel_rfl) (by kernel_rfl)) (by kernel_rfl) (by kernel_rfl) (by kernel_rfl)
      (by rw [MakeChecks.laidMetH_plain _ _ _ (by kernel_rfl)]; exact laidMet_laidAll _ (by kernel_rfl) (by kernel_rfl))) ?_
  intro W base args ds gs before hval0 hW hsz0 hL0 hsh
  have hval : ∀ (j : Nat) t v, Tryd.f8.params[j]? = some t → args[j]? = some v → Value.okWide Tryd.prog W .any base t v := hval0
  have hW' := hW
  obtain ⟨p, q, hA0, hV, rfl, hfz, hnd⟩ := hW
  have hA : DataW.TrodAll enc Tryd.prog W 0 (fun _ => true) true Tryd.f8.params.toList args.toList ds p := hA0
  rw [Tryd.params8] at hA hval
  obtain ⟨v0, vs0, d0, ds0, p0, q0, hargs, rfl, rfl, h0, r0⟩ := trodAll_cons hA
  obtain ⟨v1, vs1, d1, ds1, p1, q1, rfl, rfl, rfl, h1, r1⟩ := trodAll_cons r0
  obtain ⟨v2, vs2, d2, ds2, p2, q2, rfl, rfl, rfl, h2, r2⟩ := trodAll_cons r1
  obtain ⟨rfl, rfl, rfl⟩ := trodAll_nil r2
  obtain rfl : args = #[v0, v1, v2] := by cases args; simp_all
  obtain ⟨rfl, rfl⟩ := trodVars_none hV
  obtain ⟨L0, he0, ho0⟩ := open_emitters (hval 0 46 v0 rfl rfl) h0
  obtain ⟨xs1, hx1⟩ := open_levels (hval 1 47 v1 rfl rfl) h1
  obtain ⟨cr2, cg2, cb2, rfl⟩ := open_colE (hval 2 23 v2 rfl rfl) h2
  have hf0 : Fits v0 := open_fits Tryd.underlying46 h0 (by obtain ⟨o, c, e, _⟩ := he0; exact ⟨o, _, c, e⟩)
  clear hA0 hval0
  refine (walk v0 v1 L0 xs1 cr2 cg2 cb2 W he0 hx1 hf0 ho0).mono fun e W' ⟨he, hg⟩ => ?_
  subst he
  exact ⟨_, rfl, law_old hW' rfl rfl (by kernel_rfl) Tryd.underlying4 laid (by kernel_rfl) hg⟩

theorem over : Rows.colourEmittersMatchSpecRow.holds Tryd.pinned (OpenSpec.ofChange Rows.colourEmittersMatchSpecSpec) :=
  OpenClaim.holds_of_wide 8 Tryd.f8 rfl rfl rfl rfl rfl rfl rfl ⟨rfl, rfl, rfl, rfl, rfl⟩ rfl rfl rfl rfl rfl (by kernel_rfl) Tryd.func8 (by kernel_rfl)
    (of_decide_eq_true (by kernel_rfl)) (by unfold Func.isWrapper; first | (rw [if_pos (by decide +kernel)]; kernel_rfl) | (rw [if_neg (by decide +kernel)]; exact ⟨rfl, rfl⟩))
    (fun os started H enc _ => lifted os started H enc)

/-- The card: the statement. -/
theorem proved : Rows.ColourEmittersMatchSpecCardSaid :=
  Claim7.holds_tied_plain_at .later [] [.data, .pinned] true (true, "b3e2055a5b77432e26773dce101c4a1d69065d20e0b59a90875a8130fbd1754b") true over (fun _ h => by cases h) (by kernel_rfl) (fun _ h => by cases h) colourEmittersMatchSpec_row_tie rfl ⟨rfl, rfl⟩ (by kernel_rfl) rfl
    (fun f fn hf hfn => by
      obtain rfl : f = 8 := Option.some.inj ((show Tryd.prog.funcNamed "cyclorama/cycloramalaw3.ColourEmittersMatchSpec" = some 8 by kernel_rfl).symm.trans hf) |>.symm
      obtain rfl : fn = Tryd.f8 := (Option.some.inj (Tryd.func8.symm.trans hfn)).symm
      exact ⟨by kernel_rfl, fun j t ht => by
        rw [Tryd.params8] at ht
        have hm := Array.mem_of_getElem? ht
        have hall : ((#[46, 47, 23] : Array TypeId).toList.all fun u => !Tryd.prog.wantsStandIn u) = true := by kernel_rfl
        exact (show Tryd.prog.wantsStandIn t = false by simpa using List.all_eq_true.1 hall t (by simpa using hm))⟩)
    (by kernel_rfl)
end Go.Proofs.YtdmpdcggepfaiaaDoor.emitters
