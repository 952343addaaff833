/- ColourTonesAreNear is proved: the colour of the tone of a colour is this colour, but for at most 2 in each component, and has the same greatest component, for all colours, with no condition. -/
import Derived.Test.YtdmpdcggepfaiaaToneS
import Derived.Test.YtdmpdcggepfaiaaOpenC
namespace Go.Proofs.Ytdmpdcggepfaiaa.tonesnear
open Go.ChangeShapes Go.WideShapes Go.ChangeAt Go.RowKit

set_option maxHeartbeats 400000 in
theorem near_any (a b : Int) (w : World) (a0 : 0 ≤ a) (a1 : a ≤ 65535) (h1 : a - 2 ≤ b) (h2 : b ≤ a + 2) :
    Calls Try.prog 13 #[.int .i64 a, .int .i64 b] w fun e w' => e = .returned (.bool true) ∧ w = w' := by
  have b0 : -2 ≤ b := by omega
  have b1 : b ≤ 65537 := by omega
  have t1 : decide (a - b ≤ 2) = true := by simp; omega
  have t2 : decide (b - a ≤ 2) = true := by simp; omega
  clear h1 h2
  go_enter Try.func13, Try.ntmps13
  go_wp2
  go_returns
  exact ⟨rfl, rfl⟩

set_option maxHeartbeats 3200000 in
theorem walk (r g b : Int) (w : World) :
    Calls Try.prog 4 #[.agg #[.int .i64 r, .int .i64 g, .int .i64 b]] w fun e w' => e = .returned (.bool true) ∧ Gr w w' := by
  have hT := fun w => ToneOf_any r g b w
  cases h : isCol r g b with
  | false =>
    have e : Hid (toneR r g b = (0, 0, 0) ∧ ckCol r g b = 1) := by show _ ∧ _; unfold toneR ckCol; rw [h]; exact ⟨rfl, rfl⟩
    rw [e.out.1, e.out.2] at hT
    have HT := Lib.hid hT
    clear hT h e
    go_enter Try.func4, Try.ntmps4
    go_wp2_with ((with_reducible refine (HT.out _).mono ?_); rintro e w1 ⟨rfl, g1⟩)
    go_returns
    exact ⟨rfl, (((Gr.refl w).alloc _).trans g1).alloc _⟩
  | true =>
    obtain ⟨hr, hg, hb⟩ := isCol_iff.1 h
    have e : Hid (toneR r g b = toneC r g b ∧ ckCol r g b = 0) := by show _ ∧ _; unfold toneR ckCol; rw [h]; exact ⟨rfl, rfl⟩
    rw [e.out.1, e.out.2] at hT
    have HT := Lib.hid hT
    have hn := tone_near hr.1 hr.2 hg.1 hg.2 hb.1 hb.2
    have ht := tone_bd hr hg hb
    have hF := fun w => FromTone_ok (toneC r g b).1 (toneC r g b).2.1 (toneC r g b).2.2 w (isTon_iff.2 ht)
    have HF := Lib.hid hF
    clear hT h e ht hF
    generalize toneC r g b = T at *
    generalize fromT T.1 T.2.1 T.2.2 = C at *
    obtain ⟨x, y, z⟩ := C
    unfold Nr at hn
    simp only at hn HF
    obtain ⟨n1, n2, n3, n4, n5, n6, n7⟩ := hn
    have hM : mx3 x y z = mx3 r g b := by unfold mx3 at n4 n5 n6 n7 ⊢; omega
    have m1 := fun w ts t => run_mx3 ts t r g b w
    have m2 := fun w ts t => run_mx3 ts t x y z w
    rw [hM] at m2
    have N1 := Lib.hid (fun w => near_any r x w hr.1 hr.2 n1.1 n1.2)
    have N2 := Lib.hid (fun w => near_any g y w hg.1 hg.2 n2.1 n2.2)
    have N3 := Lib.hid (fun w => near_any b z w hb.1 hb.2 n3.1 n3.2)
    clear n1 n2 n3 n4 n5 n6 n7 hM hr hg hb
    generalize mx3 r g b = M at *
    go_enter Try.func4, Try.ntmps4
    go_wp2_with (first | (go_at_call 7; ((with_reducible refine (HT.out _).mono ?_); rintro e w1 ⟨rfl, g1⟩)) | (go_at_call 9; ((with_reducible refine (HF.out _).mono ?_); rintro e w2 ⟨rfl, g2⟩; obtain ⟨c0, c1, c2⟩ := (own3g (n := w.heap.size) rfl (g1.trans (((Gr.refl w1).alloc _).trans g2))).1; have hz : w.heap.size < w2.heap.size := World.block_lt_of_cell? _ _ c0)) | (go_at_call 13; (first | ((with_reducible refine (N1.out _).mono ?_); rintro e w' ⟨rfl, rfl⟩) | ((with_reducible refine (N2.out _).mono ?_); rintro e w' ⟨rfl, rfl⟩) | ((with_reducible refine (N3.out _).mono ?_); rintro e w' ⟨rfl, rfl⟩))))
    go_returns
    exact ⟨rfl, (((((Gr.refl w).alloc _).trans g1).alloc _).trans g2).alloc _⟩

theorem own : ownKnob Try.prog.godebug = none := by kernel_rfl
theorem laid : laidOutB Try.prog = true := by kernel_rfl

set_option maxRecDepth 100000 in
theorem lifted (os : Os) (started : os.Started) (H : Type) (enc : TypeId × Value → H) :
    ReturnsInHanded {} Try.checked os 4 .any (Rows.colourTonesAreNearSpec.pre6 enc Try.prog Try.f4 Rows.colourTonesAreNearRow.domain false) (Rows.colourTonesAreNearSpec.post enc Try.prog Try.f4 false true false false) := by
  refine returnsInHanded_of_change (C := Try.checked) own started (by kernel_rfl) Try.func4
    (ChangeSpec.witness6 (enc := enc) (C := Try.checked) false ⟨#[], #[.agg #[.int .i64 0, .int .i64 0, .int .i64 0]], []⟩ 8 (by kernel_rfl) (by kernel_rfl) (by kernel_rfl) (by kernel_rfl)) ?_
  intro W base args ds gs before hval0 hW hcnd _
  have hval : ∀ (j : Nat) t v, Try.f4.params[j]? = some t → args[j]? = some v → Value.okWide Try.prog W .any base t v := hval0
  have hW' := hW
  obtain ⟨p, q, hA0, hV, rfl, hfz, hnd⟩ := hW
  have hA : DataW.TrodAll enc Try.prog W 0 (fun _ => true) true Try.f4.params.toList args.toList ds p := hA0
  rw [Try.params4] at hA hval
  obtain ⟨v0, vs0, d0, ds0, p0, q0, hargs, rfl, rfl, h0, r0⟩ := trodAll_cons hA
  obtain ⟨rfl, rfl, rfl⟩ := trodAll_nil r0
  obtain rfl : args = #[v0] := by cases args; simp_all
  obtain ⟨rfl, rfl⟩ := trodVars_none hV
  obtain ⟨r0, g0, b0, rfl, ir0, ig0, ib0⟩ := open_colour (hval 0 23 v0 rfl rfl) h0
  clear hA0 hval0
  refine (walk r0 g0 b0 W).mono fun e W' ⟨he, hg⟩ => ?_
  subst he
  exact ⟨_, rfl, law_post hW' rfl rfl (by kernel_rfl) Try.underlying4 laid (by kernel_rfl) hg⟩

theorem over : Rows.colourTonesAreNearRow.holds Try.pinned (OpenSpec.ofChange Rows.colourTonesAreNearSpec) :=
  OpenClaim.holds_of_wide 4 Try.f4 rfl rfl rfl rfl rfl rfl rfl ⟨rfl, rfl, rfl, rfl, rfl⟩ rfl rfl rfl rfl rfl (by kernel_rfl) Try.func4 (by kernel_rfl)
    (of_decide_eq_true (by kernel_rfl)) (by unfold Func.isWrapper; first | (rw [if_pos (by decide +kernel)]; kernel_rfl) | (rw [if_neg (by decide +kernel)]; exact ⟨rfl, rfl⟩))
    (fun os started H enc _ => lifted os started H enc)

/-- The statement. -/
theorem proved : Rows.ColourTonesAreNearSaid :=
  over
end Go.Proofs.Ytdmpdcggepfaiaa.tonesnear

