/- PickLevelsMatchSpec is proved: Level answers as the reference does, for all presets, keys and values, with no condition. -/
import Derived.Test.YtgpblgalklegkaaLvlP
import Derived.Test.YtgpblgalklegkaaLvlR
import Derived.Test.YtgpblgalklegkaaOpenP
import Derived.Test.YtgpblgalklegkaaOpenV
namespace Go.Proofs.Ytgpblgalklegkaa.picklevels
open Go.ChangeShapes Go.WideShapes Go.ChangeAt Go.RowKit

set_option maxRecDepth 100000 in
set_option maxHeartbeats 1600000 in
theorem walk (v : Value) (L : List Pr) (u : Int) (p : ByteArray) (lev pre : Int) (w : World) (hv : PrVal w v L) :
    Calls Try.prog 5 #[v, .agg #[.int .i64 u, .string p], .agg #[.int .i64 lev, .int .i64 pre]] w fun e w' => e = .returned (.bool true) ∧ Bl w w' := by
  have h1 := Lib.hid (fun w' (m : Bl w w') => level_any v L u p lev pre w' (hv.bl m))
  have h2 := Lib.hid (fun w' (m : Bl w w') => level_ref v L u p lev pre w' (hv.bl m))
  generalize valX (isLev lev) L u p lev pre = X at h1 h2
  obtain ⟨x, y⟩ := X
  obtain ⟨o, c, rfl, _⟩ := hv
  have t1 : (x == x) = true := by simp
  have t2 : (y == y) = true := by simp
  have m0 : Bl w ((w.alloc (.cells #[.int .i64 u, .string p] 35)).alloc (.cells #[.int .i64 lev, .int .i64 pre] 37)) := ((Bl.refl w).alloc _).alloc _
  have K := Lib.hid (fun w' (m : Bl ((w.alloc (.cells #[.int .i64 u, .string p] 35)).alloc (.cells #[.int .i64 lev, .int .i64 pre] 37)) w') => show (w'.cell? ⟨w.heap.size, 0, none⟩ = some (.int .i64 u) ∧ w'.cell? ⟨w.heap.size, 1, none⟩ = some (.string p)) ∧ w'.cell? ⟨w.heap.size + 1, 0, none⟩ = some (.int .i64 lev) ∧ w'.cell? ⟨w.heap.size + 1, 1, none⟩ = some (.int .i64 pre) from ⟨⟨m.cell (by simp), m.cell (by simp)⟩, m.cell (by simp), m.cell (by simp)⟩)
  go_enter Try.func5, Try.ntmps5
  go_wp2_with fail
  refine (h1.out _ m0).mono ?_
  rintro e w1 ⟨rfl, m1⟩
  obtain ⟨⟨k0, k1⟩, k2, k3⟩ := K.out _ m1
  go_wp2_with fail
  refine (h2.out _ (m0.trans m1)).mono ?_
  rintro e w2 ⟨rfl, m2⟩
  go_wp2_with fail
  go_returns
  exact ⟨rfl, (m0.trans m1).trans m2⟩

theorem own : ownKnob Try.prog.godebug = none := by kernel_rfl
theorem laid : laidOutB Try.prog = true := by kernel_rfl

set_option maxRecDepth 100000 in
theorem lifted (os : Os) (started : os.Started) (H : Type) (enc : TypeId × Value → H) :
    ReturnsInHanded {} Try.checked os 5 .any (Rows.pickLevelsMatchSpecSpec.pre6 enc Try.prog Try.f5 Rows.pickLevelsMatchSpecRow.domain false) (Rows.pickLevelsMatchSpecSpec.post enc Try.prog Try.f5 false true false false) := by
  refine returnsInHanded_of_change (C := Try.checked) own started (by kernel_rfl) Try.func5
    (ChangeSpec.witness6 (enc := enc) (C := Try.checked) false ⟨#[], #[.slice none 0 0, .agg #[.int .i64 0, .string ⟨#[]⟩], .agg #[.int .i64 0, .int .i64 0]], []⟩ 8 (by kernel_rfl) (by kernel_rfl) (by kernel_rfl) (by kernel_rfl)) ?_
  intro W base args ds gs before hval0 hW hcnd _
  have hval : ∀ (j : Nat) t v, Try.f5.params[j]? = some t → args[j]? = some v → Value.okWide Try.prog W .any base t v := hval0
  have hW' := hW
  obtain ⟨p, q, hA0, hV, rfl, hfz, hnd⟩ := hW
  have hA : DataW.TrodAll enc Try.prog W 0 (fun _ => true) true Try.f5.params.toList args.toList ds p := hA0
  rw [Try.params5] at hA hval
  obtain ⟨v0, vs0, d0, ds0, p0, q0, hargs, rfl, rfl, h0, r0⟩ := trodAll_cons hA
  obtain ⟨v1, vs1, d1, ds1, p1, q1, rfl, rfl, rfl, h1, r1⟩ := trodAll_cons r0
  obtain ⟨v2, vs2, d2, ds2, p2, q2, rfl, rfl, rfl, h2, r2⟩ := trodAll_cons r1
  obtain ⟨rfl, rfl, rfl⟩ := trodAll_nil r2
  obtain rfl : args = #[v0, v1, v2] := by cases args; simp_all
  obtain ⟨rfl, rfl⟩ := trodVars_none hV
  obtain ⟨L0, he0, _⟩ := open_presets (hval 0 33 v0 rfl rfl) h0
  obtain ⟨u1, s1, rfl, _⟩ := open_key (hval 1 35 v1 rfl rfl) h1
  obtain ⟨x2, y2, rfl⟩ := open_value (hval 2 37 v2 rfl rfl) h2
  clear hA0 hval0
  refine (walk v0 L0 u1 s1 x2 y2 W he0).mono fun e W' ⟨he, hg⟩ => ?_
  subst he
  exact ⟨_, rfl, law_old hW' rfl rfl (by kernel_rfl) Try.underlying4 laid (by kernel_rfl) hg⟩

theorem over : Rows.pickLevelsMatchSpecRow.holds Try.pinned (OpenSpec.ofChange Rows.pickLevelsMatchSpecSpec) :=
  OpenClaim.holds_of_wide 5 Try.f5 rfl rfl rfl rfl rfl rfl rfl ⟨rfl, rfl, rfl, rfl, rfl⟩ rfl rfl rfl rfl rfl (by kernel_rfl) Try.func5 (by kernel_rfl)
    (of_decide_eq_true (by kernel_rfl)) (by unfold Func.isWrapper; first | (rw [if_pos (by decide +kernel)]; kernel_rfl) | (rw [if_neg (by decide +kernel)]; exact ⟨rfl, rfl⟩))
    (fun os started H enc _ => lifted os started H enc)

/-- The statement. -/
theorem proved : Rows.PickLevelsMatchSpecSaid :=
  over
end Go.Proofs.Ytgpblgalklegkaa.picklevels

