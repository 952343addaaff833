/- ColourWaysEnd is proved: each way begins with its one colour, and ends with the other one, for all colours, ways and wholes, with no condition. -/
import Derived.Test.YtdmpdcggepfaiaaWayH
import Derived.Test.YtdmpdcggepfaiaaOpenC
namespace Go.Proofs.Ytdmpdcggepfaiaa.waysend
open Go.ChangeShapes Go.WideShapes Go.ChangeAt Go.RowKit

theorem ends (k r g b x y z q : Int) :
    (betX k r g b x y z 0 q = 0 ∧ betX k r g b x y z q q = 0 ∧ betV k r g b x y z 0 q = (r, g, b) ∧ betV k r g b x y z q q = (x, y, z)) ∨
    ((betX k r g b x y z 0 q == 0) = false ∧ betX k r g b x y z q q = betX k r g b x y z 0 q ∧ betV k r g b x y z 0 q = (0, 0, 0)) := by
  have hp : isPt 0 q = isPt q q := by
    cases h : isPt q q with
    | true => exact isPt_iff.2 (by have := isPt_iff.1 h; omega)
    | false => exact Bool.eq_false_iff.2 (fun h2 => Bool.eq_false_iff.1 h (isPt_iff.2 (by have := isPt_iff.1 h2; omega)))
  unfold betX betV
  cases hc : (isCol r g b && isCol x y z) with
  | false => right; simp
  | true =>
    by_cases hk : 1 ≤ k ∧ k ≤ 3
    · cases h : isPt q q with
      | false => right; rw [hp, h]; simp [hk]
      | true =>
        left
        rw [hp, h]
        have hq := isPt_iff.1 h
        rw [if_neg (by decide), if_neg (by simpa using hk), if_neg (by decide), if_neg (by decide), if_neg (by simpa using hk), if_neg (by decide), if_pos rfl, if_neg (by decide), if_neg (by simpa using hk), if_neg (by decide), if_neg (by omega), if_pos rfl]
        exact ⟨rfl, rfl, rfl, rfl⟩
    · right
      rw [if_neg (by decide), if_pos hk, if_neg (by decide), if_pos hk, if_neg (by decide), if_pos hk]
      exact ⟨by decide, rfl, rfl⟩

set_option maxRecDepth 100000 in
set_option maxHeartbeats 3200000 in
theorem walk (r g b x y z k q : Int) (w : World) :
    Calls Try.prog 6 #[.agg #[.int .i64 r, .int .i64 g, .int .i64 b], .agg #[.int .i64 x, .int .i64 y, .int .i64 z], .int .i64 k, .int .i64 q] w fun e w' => e = .returned (.bool true) ∧ Gr w w' := by
  have h1 := fun w => between_col k r g b x y z 0 q w
  have h2 := fun w => between_col k r g b x y z q q w
  have h0 : Gr w ((w.alloc (.cells #[.int .i64 r, .int .i64 g, .int .i64 b] 23)).alloc (.cells #[.int .i64 x, .int .i64 y, .int .i64 z] 23)) := ((Gr.refl w).alloc _).alloc _
  have HK := Lib.hid (fun w' (m : Gr ((w.alloc (.cells #[.int .i64 r, .int .i64 g, .int .i64 b] 23)).alloc (.cells #[.int .i64 x, .int .i64 y, .int .i64 z] 23)) w') =>
    (show Cel3 w' w.heap.size r g b ∧ Cel3 w' (w.heap.size + 1) x y z from by
      obtain ⟨a, _⟩ := own3g (n := w.heap.size) rfl (((Gr.refl (w.alloc (.cells #[.int .i64 r, .int .i64 g, .int .i64 b] 23))).alloc _).trans m)
      obtain ⟨c, _⟩ := own3g (n := w.heap.size + 1) (by simp) m
      exact ⟨a, c⟩))
  rcases ends k r g b x y z q with ⟨e1, e2, e3, e4⟩ | ⟨e1, e2, e3⟩
  · rw [e1, e3] at h1
    rw [e2, e4] at h2
    have H1 := Lib.hid h1
    have H2 := Lib.hid h2
    clear h1 h2 e1 e2 e3 e4
    go_enter Try.func6, Try.ntmps6
    go_wp2_with fail
    refine (H1.out _).mono ?_
    rintro e w1 ⟨rfl, g1⟩
    obtain ⟨⟨c0, c1, c2⟩, d0, d1, d2⟩ := HK.out _ g1
    have z1 : w.heap.size < w1.heap.size := World.block_lt_of_cell? _ _ c0
    have z2 : w.heap.size + 1 < w1.heap.size := World.block_lt_of_cell? _ _ d0
    go_wp2_with fail
    refine (H2.out _).mono ?_
    rintro e w2 ⟨rfl, g2⟩
    obtain ⟨k0, k1, k2⟩ := (own3g rfl g2).1
    clear c0 c1 c2 d0 d1 d2
    obtain ⟨⟨c0, c1, c2⟩, d0, d1, d2⟩ := HK.out _ (Gr.trans g1 (Gr.trans ((Gr.refl w1).alloc _) g2))
    have y1 : w.heap.size < w2.heap.size := World.block_lt_of_cell? _ _ c0
    have y2 : w.heap.size + 1 < w2.heap.size := World.block_lt_of_cell? _ _ d0
    have y3 : w1.heap.size < w2.heap.size := World.block_lt_of_cell? _ _ k0
    go_wp2_with fail
    go_returns
    exact ⟨rfl, by ((repeat (first | with_reducible exact Gr.refl _ | with_reducible assumption | with_reducible refine Gr.drew ?_ | with_reducible refine Gr.alloc ?_ _ | with_reducible refine Gr.trans ?_ (by assumption))); done)⟩
  · rw [e3] at h1
    rw [e2] at h2
    have H1 := Lib.hid h1
    have H2 := Lib.hid h2
    generalize betX k r g b x y z 0 q = X at *
    generalize betV k r g b x y z q q = V at *
    clear h1 h2 e2 e3
    go_enter Try.func6, Try.ntmps6
    go_wp2_with fail
    refine (H1.out _).mono ?_
    rintro e w1 ⟨rfl, g1⟩
    obtain ⟨⟨c0, c1, c2⟩, d0, d1, d2⟩ := HK.out _ g1
    have z1 : w.heap.size < w1.heap.size := World.block_lt_of_cell? _ _ c0
    have z2 : w.heap.size + 1 < w1.heap.size := World.block_lt_of_cell? _ _ d0
    go_wp2_with fail
    refine (H2.out _).mono ?_
    rintro e w2 ⟨rfl, g2⟩
    obtain ⟨k0, k1, k2⟩ := (own3g rfl g2).1
    have y3 : w1.heap.size < w2.heap.size := World.block_lt_of_cell? _ _ k0
    clear c0 c1 c2 d0 d1 d2
    go_wp2_with fail
    go_returns
    exact ⟨rfl, by ((repeat (first | with_reducible exact Gr.refl _ | with_reducible assumption | with_reducible refine Gr.drew ?_ | with_reducible refine Gr.alloc ?_ _ | with_reducible refine Gr.trans ?_ (by assumption))); done)⟩

theorem own : ownKnob Try.prog.godebug = none := by kernel_rfl
theorem laid : laidOutB Try.prog = true := by kernel_rfl

set_option maxRecDepth 100000 in
theorem lifted (os : Os) (started : os.Started) (H : Type) (enc : TypeId × Value → H) :
    ReturnsInHanded {} Try.checked os 6 .any (Rows.colourWaysEndSpec.pre6 enc Try.prog Try.f6 Rows.colourWaysEndRow.domain false) (Rows.colourWaysEndSpec.post enc Try.prog Try.f6 false true false false) := by
  refine returnsInHanded_of_change (C := Try.checked) own started (by kernel_rfl) Try.func6
    (ChangeSpec.witness6 (enc := enc) (C := Try.checked) false ⟨#[], #[.agg #[.int .i64 0, .int .i64 0, .int .i64 0], .agg #[.int .i64 0, .int .i64 0, .int .i64 0], .int .i64 0, .int .i64 0], []⟩ 8 (by kernel_rfl) (by kernel_rfl) (by kernel_rfl) (by kernel_rfl)) ?_
  intro W base args ds gs before hval0 hW hcnd _
  have hval : ∀ (j : Nat) t v, Try.f6.params[j]? = some t → args[j]? = some v → Value.okWide Try.prog W .any base t v := hval0
  have hW' := hW
  obtain ⟨p, q, hA0, hV, rfl, hfz, hnd⟩ := hW
  have hA : DataW.TrodAll enc Try.prog W 0 (fun _ => true) true Try.f6.params.toList args.toList ds p := hA0
  rw [Try.params6] at hA hval
  obtain ⟨v0, vs0, d0, ds0, p0, q0, hargs, rfl, rfl, h0, r0⟩ := trodAll_cons hA
  obtain ⟨v1, vs1, d1, ds1, p1, q1, rfl, rfl, rfl, h1, r1⟩ := trodAll_cons r0
  obtain ⟨v2, vs2, d2, ds2, p2, q2, rfl, rfl, rfl, h2, r2⟩ := trodAll_cons r1
  obtain ⟨v3, vs3, d3, ds3, p3, q3, rfl, rfl, rfl, h3, r3⟩ := trodAll_cons r2
  obtain ⟨rfl, rfl, rfl⟩ := trodAll_nil r3
  obtain rfl : args = #[v0, v1, v2, v3] := by cases args; simp_all
  obtain ⟨rfl, rfl⟩ := trodVars_none hV
  obtain ⟨cr0, cg0, cb0, rfl, ir0, ig0, ib0⟩ := open_colour (hval 0 23 v0 rfl rfl) h0
  obtain ⟨cr1, cg1, cb1, rfl, ir1, ig1, ib1⟩ := open_colour (hval 1 23 v1 rfl rfl) h1
  obtain ⟨a2, rfl, rfl, rfl, w2⟩ := open_int Try.underlying3 (hval 2 3 v2 rfl rfl) h2
  obtain ⟨a3, rfl, rfl, rfl, w3⟩ := open_int Try.underlying3 (hval 3 3 v3 rfl rfl) h3
  clear hA0 hval0
  refine (walk cr0 cg0 cb0 cr1 cg1 cb1 a2 a3 W).mono fun e W' ⟨he, hg⟩ => ?_
  subst he
  exact ⟨_, rfl, law_post hW' rfl rfl (by kernel_rfl) Try.underlying4 laid (by kernel_rfl) hg⟩

theorem over : Rows.colourWaysEndRow.holds Try.pinned (OpenSpec.ofChange Rows.colourWaysEndSpec) :=
  OpenClaim.holds_of_wide 6 Try.f6 rfl rfl rfl rfl rfl rfl rfl ⟨rfl, rfl, rfl, rfl, rfl⟩ rfl rfl rfl rfl rfl (by kernel_rfl) Try.func6 (by kernel_rfl)
    (of_decide_eq_true (by kernel_rfl)) (by unfold Func.isWrapper; first | (rw [if_pos (by decide +kernel)]; kernel_rfl) | (rw [if_neg (by decide +kernel)]; exact ⟨rfl, rfl⟩))
    (fun os started H enc _ => lifted os started H enc)

/-- The statement. -/
theorem proved : Rows.ColourWaysEndSaid :=
  over
end Go.Proofs.Ytdmpdcggepfaiaa.waysend

