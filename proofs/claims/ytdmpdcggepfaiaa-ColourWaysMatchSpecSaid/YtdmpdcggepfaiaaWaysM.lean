/- ColourWaysMatchSpec is proved: Filter and Between are as specified, with all errors, for all colours, ways, parts and wholes, with no condition. -/
import Derived.Test.YtdmpdcggepfaiaaRefB5
import Derived.Test.YtdmpdcggepfaiaaOpenC
namespace Go.Proofs.Ytdmpdcggepfaiaa.waysmatch
open Go.ChangeShapes Go.WideShapes Go.ChangeAt Go.RowKit

set_option maxRecDepth 100000 in
set_option maxHeartbeats 6400000 in
theorem walk (r g b x y z k p q : Int) (w : World) :
    Calls Try.prog 5 #[.agg #[.int .i64 r, .int .i64 g, .int .i64 b], .agg #[.int .i64 x, .int .i64 y, .int .i64 z], .int .i64 k, .int .i64 p, .int .i64 q] w fun e w' => e = .returned (.bool true) ∧ Bl w w' := by
  have H1 := Lib.hid (fun w => filter_any r g b x y z w)
  have H2 := Lib.hid (fun w => filter_ref r g b x y z w)
  have H3 := Lib.hid (fun w => between_col k r g b x y z p q w)
  have H4 := Lib.hid (fun w => between_ref3 k r g b x y z p q w)
  generalize filV r g b x y z = F at *
  generalize filX r g b x y z = X at *
  generalize betV k r g b x y z p q = V at *
  generalize betX k r g b x y z p q = Y at *
  have h0 : Bl w ((w.alloc (.cells #[.int .i64 r, .int .i64 g, .int .i64 b] 23)).alloc (.cells #[.int .i64 x, .int .i64 y, .int .i64 z] 23)) := ((Bl.refl w).alloc _).alloc _
  have HK := Lib.hid (fun w' (m : Bl ((w.alloc (.cells #[.int .i64 r, .int .i64 g, .int .i64 b] 23)).alloc (.cells #[.int .i64 x, .int .i64 y, .int .i64 z] 23)) w') =>
    (show Cel3 w' w.heap.size r g b ∧ Cel3 w' (w.heap.size + 1) x y z from by
      obtain ⟨a, _⟩ := own3b (n := w.heap.size) rfl (((Bl.refl (w.alloc (.cells #[.int .i64 r, .int .i64 g, .int .i64 b] 23))).alloc _).trans m)
      obtain ⟨c, _⟩ := own3b (n := w.heap.size + 1) (by simp) m
      exact ⟨a, c⟩))
  go_enter Try.func5, Try.ntmps5
  go_wp2_with fail
  refine (H1.out _).mono ?_
  rintro e w1 ⟨rfl, k1⟩
  have g1 := k1.bl
  clear k1
  obtain ⟨⟨c0, c1, c2⟩, d0, d1, d2⟩ := HK.out _ g1
  have z1 : w.heap.size < w1.heap.size := World.block_lt_of_cell? _ _ c0
  have z2 : w.heap.size + 1 < w1.heap.size := World.block_lt_of_cell? _ _ d0
  go_wp2_with fail
  refine (H2.out _).mono ?_
  rintro e w2 ⟨rfl, g2⟩
  clear c0 c1 c2 d0 d1 d2
  have j2 := g1.trans (((Bl.refl w1).alloc _).trans g2)
  obtain ⟨⟨c0, c1, c2⟩, d0, d1, d2⟩ := HK.out _ j2
  obtain ⟨⟨p0, p1, p2⟩, f0, f1, f2⟩ := own3b (n := w1.heap.size) rfl g2
  have y1 : w.heap.size < w2.heap.size := World.block_lt_of_cell? _ _ c0
  have y2 : w.heap.size + 1 < w2.heap.size := World.block_lt_of_cell? _ _ d0
  have y3 : w1.heap.size < w2.heap.size := World.block_lt_of_cell? _ _ p0
  go_wp2_with fail
  refine (H3.out _).mono ?_
  rintro e w3 ⟨rfl, k3⟩
  have g3 := k3.bl
  clear k3 c0 c1 c2 d0 d1 d2 p0 p1 p2 f0 f1 f2
  have l3 := ((Bl.refl w2).alloc _).trans g3
  obtain ⟨⟨p0, p1, p2⟩, f0, f1, f2⟩ := own3b (n := w1.heap.size) rfl (g2.trans l3)
  obtain ⟨⟨q0, q1, q2⟩, i0, i1, i2⟩ := own3b (n := w2.heap.size) rfl g3
  obtain ⟨⟨c0, c1, c2⟩, d0, d1, d2⟩ := HK.out _ (j2.trans l3)
  have n1 : w.heap.size ≠ w1.heap.size := Nat.ne_of_lt z1
  have n2 : w.heap.size + 1 ≠ w1.heap.size := Nat.ne_of_lt z2
  have n3 : w1.heap.size ≠ w2.heap.size := Nat.ne_of_lt y3
  have n1' : w1.heap.size ≠ w.heap.size := Ne.symm n1
  have n2' : w1.heap.size ≠ w.heap.size + 1 := Ne.symm n2
  have n3' : w2.heap.size ≠ w1.heap.size := Ne.symm n3
  go_wp2_with fail
  refine (H4.out _).mono ?_
  rintro e w4 ⟨rfl, g4⟩
  have e0 : w4.cell? ⟨w1.heap.size, 0, none⟩ = some (.int .i64 V.1) := g4.cell ((oth (by decide)).trans ((oth (by decide)).trans (sam p0)))
  have e1 : w4.cell? ⟨w1.heap.size, 1, none⟩ = some (.int .i64 V.2.1) := g4.cell ((oth (by decide)).trans (sam ((oth (by decide)).trans p1)))
  have e2 : w4.cell? ⟨w1.heap.size, 2, none⟩ = some (.int .i64 V.2.2) := g4.cell (sam ((oth (by decide)).trans ((oth (by decide)).trans p2)))
  obtain ⟨r0, r1, r2⟩ := (show Cel3 w3 w2.heap.size F.1 F.2.1 F.2.2 from ⟨q0, q1, q2⟩).far3 n3 (.int .i64 V.1) (.int .i64 V.2.1) (.int .i64 V.2.2)
  replace r0 := g4.cell r0
  replace r1 := g4.cell r1
  replace r2 := g4.cell r2
  have hq : w2.heap.size < w3.heap.size := World.block_lt_of_cell? _ _ q0
  replace i0 : w4.frozen? ⟨w2.heap.size, 0, none⟩ = false := by rw [g4.frozen (by simpa using hq)]; simpa using i0
  replace i1 : w4.frozen? ⟨w2.heap.size, 1, none⟩ = false := by rw [g4.frozen (by simpa using hq)]; simpa using i1
  replace i2 : w4.frozen? ⟨w2.heap.size, 2, none⟩ = false := by rw [g4.frozen (by simpa using hq)]; simpa using i2
  have hw2 : w.heap.size ≤ w2.heap.size := by omega
  have hfin : Bl w w4 := (set3b (n := w1.heap.size) (by omega) (h0.trans (j2.trans l3)) _ _ _).trans g4
  clear c0 c1 c2 d0 d1 d2 p0 p1 p2 f0 f1 f2 q0 q1 q2
  go_wp2_with fail
  go_returns
  exact ⟨rfl, set3b hw2 hfin _ _ _⟩

theorem own : ownKnob Try.prog.godebug = none := by kernel_rfl
theorem laid : laidOutB Try.prog = true := by kernel_rfl

set_option maxRecDepth 100000 in
theorem lifted (os : Os) (started : os.Started) (H : Type) (enc : TypeId × Value → H) :
    ReturnsInHanded {} Try.checked os 5 .any (Rows.colourWaysMatchSpecSpec.pre6 enc Try.prog Try.f5 Rows.colourWaysMatchSpecRow.domain false) (Rows.colourWaysMatchSpecSpec.post enc Try.prog Try.f5 false true false false) := by
  refine returnsInHanded_of_change (C := Try.checked) own started (by kernel_rfl) Try.func5
    (ChangeSpec.witness6 (enc := enc) (C := Try.checked) false ⟨#[], #[.agg #[.int .i64 0, .int .i64 0, .int .i64 0], .agg #[.int .i64 0, .int .i64 0, .int .i64 0], .int .i64 0, .int .i64 0, .int .i64 0], []⟩ 8 (by kernel_rfl) (by kernel_rfl) (by kernel_rfl) (by kernel_rfl)) ?_
  intro W base args ds gs before hval0 hW hcnd _
  have hval : ∀ (j : Nat) t v, Try.f5.params[j]? = some t → args[j]? = some v → Value.okWide Try.prog W .any base t v := hval0
  have hW' := hW
  obtain ⟨p, q, hA0, hV, rfl, hfz, hnd⟩ := hW
  have hA : DataW.TrodAll enc Try.prog W 0 (fun _ => true) true Try.f5.params.toList args.toList ds p := hA0
  rw [Try.params5] at hA hval
  obtain ⟨v0, vs0, d0, ds0, p0, q0, hargs, rfl, rfl, h0, r0⟩ := trodAll_cons hA
  obtain ⟨v1, vs1, d1, ds1, p1, q1, rfl, rfl, rfl, h1, r1⟩ := trodAll_cons r0
  obtain ⟨v2, vs2, d2, ds2, p2, q2, rfl, rfl, rfl, h2, r2⟩ := trodAll_cons r1
  obtain ⟨v3, vs3, d3, ds3, p3, q3, rfl, rfl, rfl, h3, r3⟩ := trodAll_cons r2
  obtain ⟨v4, vs4, d4, ds4, p4, q4, rfl, rfl, rfl, h4, r4⟩ := trodAll_cons r3
  obtain ⟨rfl, rfl, rfl⟩ := trodAll_nil r4
  obtain rfl : args = #[v0, v1, v2, v3, v4] := by cases args; simp_all
  obtain ⟨rfl, rfl⟩ := trodVars_none hV
  obtain ⟨cr0, cg0, cb0, rfl, ir0, ig0, ib0⟩ := open_colour (hval 0 23 v0 rfl rfl) h0
  obtain ⟨cr1, cg1, cb1, rfl, ir1, ig1, ib1⟩ := open_colour (hval 1 23 v1 rfl rfl) h1
  obtain ⟨a2, rfl, rfl, rfl, w2⟩ := open_int Try.underlying3 (hval 2 3 v2 rfl rfl) h2
  obtain ⟨a3, rfl, rfl, rfl, w3⟩ := open_int Try.underlying3 (hval 3 3 v3 rfl rfl) h3
  obtain ⟨a4, rfl, rfl, rfl, w4⟩ := open_int Try.underlying3 (hval 4 3 v4 rfl rfl) h4
  clear hA0 hval0
  refine (walk cr0 cg0 cb0 cr1 cg1 cb1 a2 a3 a4 W).mono fun e W' ⟨he, hg⟩ => ?_
  subst he
  exact ⟨_, rfl, law_old hW' rfl rfl (by kernel_rfl) Try.underlying4 laid (by kernel_rfl) hg⟩

theorem over : Rows.colourWaysMatchSpecRow.holds Try.pinned (OpenSpec.ofChange Rows.colourWaysMatchSpecSpec) :=
  OpenClaim.holds_of_wide 5 Try.f5 rfl rfl rfl rfl rfl rfl rfl ⟨rfl, rfl, rfl, rfl, rfl⟩ rfl rfl rfl rfl rfl (by kernel_rfl) Try.func5 (by kernel_rfl)
    (of_decide_eq_true (by kernel_rfl)) (by unfold Func.isWrapper; first | (rw [if_pos (by decide +kernel)]; kernel_rfl) | (rw [if_neg (by decide +kernel)]; exact ⟨rfl, rfl⟩))
    (fun os started H enc _ => lifted os started H enc)

/-- The statement. -/
theorem proved : Rows.ColourWaysMatchSpecSaid :=
  over
end Go.Proofs.Ytdmpdcggepfaiaa.waysmatch

