/- ColourTonesMatchSpec is proved: Check, ToneOf and FromTone are as specified, with all errors, for all colours and tones, with no condition. -/
import Derived.Test.YtdmpdcggepfaiaaRefF3
import Derived.Test.YtdmpdcggepfaiaaOpenC
import Derived.Shelf.SlSortCmp.QuietGrown
namespace Go.Proofs.Ytdmpdcggepfaiaa.tonesmatch
open Go.ChangeShapes Go.WideShapes Go.ChangeAt Go.RowKit

set_option maxRecDepth 100000 in
set_option maxHeartbeats 6400000 in
theorem walk (r g b x y z : Int) (w : World) :
    Calls Try.prog 3 #[.agg #[.int .i64 r, .int .i64 g, .int .i64 b], .agg #[.int .i64 x, .int .i64 y, .int .i64 z]] w fun e w' => e = .returned (.bool true) ∧ Bl w w' := by
  have H1 := Lib.hid (fun w => ToneOf_any r g b w)
  have H2 := Lib.hid (fun w => ToneOf_ref r g b w)
  have H3 := Lib.hid (fun w => FromTone_any x y z w)
  have H4 := Lib.hid (fun w => FromTone_ref x y z w)
  have H5 := Lib.hid (fun w => check_col r g b w)
  have H6 := Lib.hid (fun w => check_ref3g r g b w)
  generalize toneR r g b = T at *
  generalize fromR x y z = C at *
  generalize ckCol r g b = X at *
  generalize (if isTon x y z = true then (0 : Int) else 1) = Y at *
  have mixed : Try.prog.follows .mixedOrders = true := by kernel_rfl
  have h0 : Bl (w.alloc (.cells #[.int .i64 r, .int .i64 g, .int .i64 b] 23)) ((w.alloc (.cells #[.int .i64 r, .int .i64 g, .int .i64 b] 23)).alloc (.cells #[.int .i64 x, .int .i64 y, .int .i64 z] 25)) := (Bl.refl _).alloc _
  have hw : Bl w (w.alloc (.cells #[.int .i64 r, .int .i64 g, .int .i64 b] 23)) := (Bl.refl _).alloc _
  go_enter Try.func3, Try.ntmps3
  go_wp2_with fail
  refine (H1.out _).mono ?_
  rintro e w1 ⟨rfl, k1⟩
  have g1 := k1.bl
  clear k1
  obtain ⟨⟨c0, c1, c2⟩, _⟩ := own3b (n := w.heap.size) rfl (h0.trans g1)
  have z0 : w.heap.size < w1.heap.size := World.block_lt_of_cell? _ _ c0
  go_wp2_with fail
  refine (H2.out _).mono ?_
  rintro e w2 ⟨rfl, g2⟩
  clear c0 c1 c2 z0
  have j1 := (h0.trans g1).trans (((Bl.refl w1).alloc _).trans g2)
  obtain ⟨⟨d0, d1, d2⟩, _⟩ := own3b (n := w.heap.size + 1) (by simp) (g1.trans (((Bl.refl w1).alloc _).trans g2))
  have z0 : w.heap.size + 1 < w2.heap.size := World.block_lt_of_cell? _ _ d0
  go_wp2_with fail
  refine (H3.out _).mono ?_
  rintro e w3 ⟨rfl, k3⟩
  have g3 := k3.bl
  clear k3 d0 d1 d2 z0
  obtain ⟨⟨d0, d1, d2⟩, _⟩ := own3b (n := w.heap.size + 1) (by simp) ((g1.trans (((Bl.refl w1).alloc _).trans g2)).trans (((Bl.refl w2).alloc _).trans g3))
  have z0 : w.heap.size + 1 < w3.heap.size := World.block_lt_of_cell? _ _ d0
  go_wp2_with fail
  refine (H4.out _).mono ?_
  rintro e w4 ⟨rfl, g4⟩
  clear d0 d1 d2 z0
  obtain ⟨⟨c0, c1, c2⟩, _⟩ := own3b (n := w.heap.size) rfl (((j1.trans (((Bl.refl w2).alloc _).trans g3)).trans (((Bl.refl w3).alloc _).trans g4)).alloc (.cells #[.int .i64 C.1, .int .i64 C.2.1, .int .i64 C.2.2] 23))
  obtain ⟨⟨p0, p1, p2⟩, _⟩ := own3b (n := w1.heap.size) rfl (((g2.trans (((Bl.refl w2).alloc _).trans g3)).trans (((Bl.refl w3).alloc _).trans g4)).alloc (.cells #[.int .i64 C.1, .int .i64 C.2.1, .int .i64 C.2.2] 23))
  obtain ⟨⟨q0, q1, q2⟩, _⟩ := own3b (n := w2.heap.size) rfl ((g3.trans (((Bl.refl w3).alloc _).trans g4)).alloc (.cells #[.int .i64 C.1, .int .i64 C.2.1, .int .i64 C.2.2] 23))
  obtain ⟨⟨r0, r1, r2⟩, _⟩ := own3b (n := w3.heap.size) rfl (g4.alloc (.cells #[.int .i64 C.1, .int .i64 C.2.1, .int .i64 C.2.2] 23))
  obtain ⟨⟨s0, s1, s2⟩, _⟩ := own3b (n := w4.heap.size) rfl (Bl.refl (w4.alloc (.cells #[.int .i64 C.1, .int .i64 C.2.1, .int .i64 C.2.2] 23)))
  have hfin : Bl w (w4.alloc (.cells #[.int .i64 C.1, .int .i64 C.2.1, .int .i64 C.2.2] 23)) := (hw.trans ((j1.trans (((Bl.refl w2).alloc _).trans g3)).trans (((Bl.refl w3).alloc _).trans g4))).alloc _
  go_wp2_with fail
  have Gc0 := cell_grown (World.block_lt_of_cell? _ _ c0) c0
  have Gc1 := cell_grown (World.block_lt_of_cell? _ _ c1) c1
  have Gc2 := cell_grown (World.block_lt_of_cell? _ _ c2) c2
  have Gp0 := cell_grown (World.block_lt_of_cell? _ _ p0) p0
  have Gp1 := cell_grown (World.block_lt_of_cell? _ _ p1) p1
  have Gp2 := cell_grown (World.block_lt_of_cell? _ _ p2) p2
  have Gq0 := cell_grown (World.block_lt_of_cell? _ _ q0) q0
  have Gq1 := cell_grown (World.block_lt_of_cell? _ _ q1) q1
  have Gq2 := cell_grown (World.block_lt_of_cell? _ _ q2) q2
  have Gr0 := cell_grown (World.block_lt_of_cell? _ _ r0) r0
  have Gr1 := cell_grown (World.block_lt_of_cell? _ _ r1) r1
  have Gr2 := cell_grown (World.block_lt_of_cell? _ _ r2) r2
  have Gs0 := cell_grown (World.block_lt_of_cell? _ _ s0) s0
  have Gs1 := cell_grown (World.block_lt_of_cell? _ _ s1) s1
  have Gs2 := cell_grown (World.block_lt_of_cell? _ _ s2) s2
  clear c0 c1 c2 p0 p1 p2 q0 q1 q2 r0 r1 r2 s0 s1 s2
  go_quiet_grown (first | (go_at_call 11; exact grown_of (H5.out _)) | (go_at_call 12; exact grown_of (H6.out _)))
  go_wp2
  go_returns
  exact ⟨rfl, hfin.trans (((Gr.refl _).drewN _).grown _).bl⟩

theorem own : ownKnob Try.prog.godebug = none := by kernel_rfl
theorem laid : laidOutB Try.prog = true := by kernel_rfl

set_option maxRecDepth 100000 in
theorem lifted (os : Os) (started : os.Started) (H : Type) (enc : TypeId × Value → H) :
    ReturnsInHanded {} Try.checked os 3 .any (Rows.colourTonesMatchSpecSpec.pre6 enc Try.prog Try.f3 Rows.colourTonesMatchSpecRow.domain false) (Rows.colourTonesMatchSpecSpec.post enc Try.prog Try.f3 false true false false) := by
  refine returnsInHanded_of_change (C := Try.checked) own started (by kernel_rfl) Try.func3
    (ChangeSpec.witness6 (enc := enc) (C := Try.checked) false ⟨#[], #[.agg #[.int .i64 0, .int .i64 0, .int .i64 0], .agg #[.int .i64 0, .int .i64 0, .int .i64 0]], []⟩ 8 (by kernel_rfl) (by kernel_rfl) (by kernel_rfl) (by kernel_rfl)) ?_
  intro W base args ds gs before hval0 hW hcnd _
  have hval : ∀ (j : Nat) t v, Try.f3.params[j]? = some t → args[j]? = some v → Value.okWide Try.prog W .any base t v := hval0
  have hW' := hW
  obtain ⟨p, q, hA0, hV, rfl, hfz, hnd⟩ := hW
  have hA : DataW.TrodAll enc Try.prog W 0 (fun _ => true) true Try.f3.params.toList args.toList ds p := hA0
  rw [Try.params3] at hA hval
  obtain ⟨v0, vs0, d0, ds0, p0, q0, hargs, rfl, rfl, h0, r0⟩ := trodAll_cons hA
  obtain ⟨v1, vs1, d1, ds1, p1, q1, rfl, rfl, rfl, h1, r1⟩ := trodAll_cons r0
  obtain ⟨rfl, rfl, rfl⟩ := trodAll_nil r1
  obtain rfl : args = #[v0, v1] := by cases args; simp_all
  obtain ⟨rfl, rfl⟩ := trodVars_none hV
  obtain ⟨cr0, cg0, cb0, rfl, ir0, ig0, ib0⟩ := open_colour (hval 0 23 v0 rfl rfl) h0
  obtain ⟨tH1, tS1, tV1, rfl, ih1, is1, iv1⟩ := open_tone (hval 1 25 v1 rfl rfl) h1
  clear hA0 hval0
  refine (walk cr0 cg0 cb0 tH1 tS1 tV1 W).mono fun e W' ⟨he, hg⟩ => ?_
  subst he
  exact ⟨_, rfl, law_old hW' rfl rfl (by kernel_rfl) Try.underlying4 laid (by kernel_rfl) hg⟩

theorem over : Rows.colourTonesMatchSpecRow.holds Try.pinned (OpenSpec.ofChange Rows.colourTonesMatchSpecSpec) :=
  OpenClaim.holds_of_wide 3 Try.f3 rfl rfl rfl rfl rfl rfl rfl ⟨rfl, rfl, rfl, rfl, rfl⟩ rfl rfl rfl rfl rfl (by kernel_rfl) Try.func3 (by kernel_rfl)
    (of_decide_eq_true (by kernel_rfl)) (by unfold Func.isWrapper; first | (rw [if_pos (by decide +kernel)]; kernel_rfl) | (rw [if_neg (by decide +kernel)]; exact ⟨rfl, rfl⟩))
    (fun os started H enc _ => lifted os started H enc)

/-- The statement. -/
theorem proved : Rows.ColourTonesMatchSpecSaid :=
  over
end Go.Proofs.Ytdmpdcggepfaiaa.tonesmatch

