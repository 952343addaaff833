/- course, At, Ends. -/
import Derived.Test.YtfeeolfekfkdiaaDoorCourse
import Derived.Laws.EntriesVeiled
namespace Go.Proofs.YtfeeolfekfkdiaaDoor
open Go.RowKit Go.Sort

def PTime (w : World) (G : Int → Int) (e : Ending) (w' : World) : Prop := ∃ v, e = .returned v ∧ TimeFn w' G v ∧ Gr w w'

theorem own7 {w W : World} {a b c d x y z : Value} {t : TypeId} (h : Gr (w.alloc (.cells #[a, b, c, d, x, y, z] t)) W) :
    W.cell? ⟨w.heap.size, 0, none⟩ = some a ∧ W.cell? ⟨w.heap.size, 1, none⟩ = some b ∧ W.cell? ⟨w.heap.size, 2, none⟩ = some c ∧ W.cell? ⟨w.heap.size, 3, none⟩ = some d ∧ W.cell? ⟨w.heap.size, 4, none⟩ = some x ∧ W.cell? ⟨w.heap.size, 5, none⟩ = some y ∧ W.cell? ⟨w.heap.size, 6, none⟩ = some z :=
  ⟨h.cell (by simp), h.cell (by simp), h.cell (by simp), h.cell (by simp), h.cell (by simp), h.cell (by simp), h.cell (by simp)⟩

set_option maxHeartbeats 800000 in
theorem course_any (F T S Dl Tm k : Int) (l : List (Int × Int)) (sv : Value) (w : World) (hF : OkFade F T S Dl Tm k l) (hC : CurveAt w k l sv) :
    Calls Tryd.prog 34 #[.agg #[.int .i64 F, .int .i64 T, .int .i64 S, .int .i64 Dl, .int .i64 Tm, .int .i64 k, sv]] w (PTime w (fadeAt F T S Dl Tm k l)) := by
  have HF := Lib.hid hF
  have HS := Lib.hid (fun w1 (g : Gr w w1) => shape_any k l sv w1 (hC.gr g))
  have s0 := hF.s0
  have s1 := hF.s1
  have d0 := hF.d0
  have d1 := hF.d1
  clear hF hC
  go_enter Tryd.func34, Tryd.ntmps34
  go_wp2_with fail
  refine (HS.out _ ((Gr.refl w).alloc _)).mono ?_
  rintro e w1 ⟨v, rfl, hW, hg⟩
  obtain ⟨k0, k1, k2, k3, k4, k5, k6⟩ := own7 hg
  have hW' := hW
  obtain ⟨g, cb, rfl, _, _⟩ := hW'
  have HW := Lib.hid hW
  have hz := hg.size
  have hz2 : w.heap.size < w1.heap.size := by simp at hz; omega
  clear hz
  clear hW
  go_wp2_with fail
  go_returns
  have hgr : Gr w1 ((w1.alloc (.cells #[.func (.func g) #[] cb] 56)).alloc (.cells #[.int .i64 (S + Dl)] 3)) := ((Gr.refl w1).alloc _).alloc _
  refine ⟨_, rfl, ⟨_, _, rfl, enters_of Tryd.func66 (by kernel_rfl) rfl, fun w2 t hg2 t0 t1 => ?_⟩, ?_⟩
  · have h2 := hgr.bl.trans hg2
    exact course_fn w.heap.size (w1.heap.size + 1) w1.heap.size F T S Dl Tm k l sv _ t w2 HF.out (h2.cell k0) (h2.cell k1) (h2.cell k2) (h2.cell k3) (h2.cell k4) (h2.cell k5) (h2.cell k6) (hg2.cell (by simp)) (hg2.cell (by simp)) (HW.out.bl h2) t0 t1
  · exact (((Gr.refl w).alloc _).trans hg).trans hgr

theorem okFade_of {F T S Dl Tm k : Int} {l : List (Int × Int)} (h : ckFade F T S Dl Tm k l = 0) : OkFade F T S Dl Tm k l ∧ ckCurve k l = 0 := by
  unfold ckFade at h
  by_cases h1 : (isLev F && isLev T) = false
  · rw [if_pos h1] at h; omega
  rw [if_neg h1] at h
  by_cases h2 : (isTm S && isTm Dl && isTm Tm && isTm (S + Dl + Tm)) = false
  · rw [if_pos h2] at h; omega
  rw [if_neg h2] at h
  simp only [Bool.not_eq_false, Bool.and_eq_true, isLev_iff, isTm_iff] at h1 h2
  refine ⟨⟨by omega, by omega, by omega, by omega, by omega, by omega, by omega, by omega, by omega, by omega, by omega, ?_⟩, h⟩
  unfold ckCurve at h
  by_cases h3 : k < 1 ∨ 6 < k
  · rw [if_pos h3] at h; omega
  rw [if_neg h3] at h
  refine ⟨by omega, by omega, fun h6 => ?_⟩
  rw [if_pos h6] at h
  exact okTab_of l h

set_option maxHeartbeats 800000 in
theorem at_ck (F T S Dl Tm k t : Int) (l : List (Int × Int)) (sv : Value) (w : World) (h : PtsAny w sv l) (c : Int) (hc : c = ckFade F T S Dl Tm k l) (h0 : c ≠ 0) :
    Calls Tryd.prog 13 #[.agg #[.int .i64 F, .int .i64 T, .int .i64 S, .int .i64 Dl, .int .i64 Tm, .int .i64 k, sv], .int .i64 t] w fun e w' => e = .returned (.tuple #[.int .i64 0, .int .i64 c]) ∧ Gr w w' := by
  have HC := fun w1 (g : Gr w w1) => checkFade_any F T S Dl Tm k sv l w1 (h.gr g)
  rw [← hc] at HC
  have HC := Lib.hid HC
  have hb : (c != 0) = true := by simpa using h0
  clear h hc
  go_enter Tryd.func13, Tryd.ntmps13
  go_wp2_with fail
  refine (HC.out _ ((Gr.refl w).alloc _)).mono ?_
  rintro e w1 ⟨rfl, hg⟩
  go_wp2_with fail
  go_returns
  exact ⟨rfl, ((Gr.refl w).alloc _).trans hg⟩

set_option maxHeartbeats 800000 in
theorem at_tm (F T S Dl Tm k t : Int) (l : List (Int × Int)) (sv : Value) (w : World) (h : PtsAny w sv l) (hc : ckFade F T S Dl Tm k l = 0) (ht : isTm t = false) :
    Calls Tryd.prog 13 #[.agg #[.int .i64 F, .int .i64 T, .int .i64 S, .int .i64 Dl, .int .i64 Tm, .int .i64 k, sv], .int .i64 t] w fun e w' => e = .returned (.tuple #[.int .i64 0, .int .i64 1]) ∧ Gr w w' := by
  have HC := fun w1 (g : Gr w w1) => checkFade_any F T S Dl Tm k sv l w1 (h.gr g)
  rw [hc] at HC
  have HC := Lib.hid HC
  have hT := fun w => isTime_any t w
  rw [ht] at hT
  have HT := Lib.hid hT
  clear h hc ht hT
  go_enter Tryd.func13, Tryd.ntmps13
  go_wp2_with fail
  refine (HC.out _ ((Gr.refl w).alloc _)).mono ?_
  rintro e w1 ⟨rfl, hg⟩
  go_wp2_with fail
  refine (HT.out _).mono ?_
  rintro e w2 ⟨rfl, rfl⟩
  go_wp2_with fail
  go_returns
  exact ⟨rfl, ((Gr.refl w).alloc _).trans hg⟩

set_option maxHeartbeats 800000 in
theorem at_ok (F T S Dl Tm k t : Int) (l : List (Int × Int)) (sv : Value) (w : World) (h : PtsAny w sv l) (hc : ckFade F T S Dl Tm k l = 0) (ht : isTm t = true) :
    Calls Tryd.prog 13 #[.agg #[.int .i64 F, .int .i64 T, .int .i64 S, .int .i64 Dl, .int .i64 Tm, .int .i64 k, sv], .int .i64 t] w fun e w' => e = .returned (.tuple #[.int .i64 (fadeAt F T S Dl Tm k l t), .int .i64 0]) ∧ Gr w w' := by
  have HC := fun w1 (g : Gr w w1) => checkFade_any F T S Dl Tm k sv l w1 (h.gr g)
  rw [hc] at HC
  have HC := Lib.hid HC
  obtain ⟨hok, hcc⟩ := okFade_of hc
  have HO := Lib.hid (fun w1 (g : Gr w w1) => course_any F T S Dl Tm k l sv w1 hok (curveAt_of (h.gr g) hcc))
  have hT := fun w => isTime_any t w
  rw [ht] at hT
  have HT := Lib.hid hT
  obtain ⟨t0, t1⟩ := isTm_iff.1 ht
  clear h hc ht hT hcc hok
  go_enter Tryd.func13, Tryd.ntmps13
  go_wp2_with fail
  refine (HC.out _ ((Gr.refl w).alloc _)).mono ?_
  rintro e w1 ⟨rfl, hg⟩
  obtain ⟨k0, k1, k2, k3, k4, k5, k6⟩ := own7 hg
  go_wp2_with fail
  refine (HT.out _).mono ?_
  rintro e w2 ⟨rfl, rfl⟩
  go_wp2_with fail
  refine (HO.out _ (((Gr.refl w).alloc _).trans hg)).mono ?_
  rintro e w3 ⟨v, rfl, hV, hg2⟩
  obtain ⟨g, cb, rfl, eg, hf⟩ := hV
  have HV := Lib.hid (fun w1 (g1 : Gr w3 w1) => hf w1 t g1.bl t0 t1)
  clear hf
  go_wp2_with fail
  refine (HV.out _ (Gr.refl _)).mono ?_
  rintro e w4 ⟨rfl, hg3⟩
  go_wp2_with fail
  go_returns
  exact ⟨rfl, ((((Gr.refl w).alloc _).trans hg).trans hg2).trans hg3⟩

/-- What At gives at whatever time: the level, and the fault. -/
def atA (F T S Dl Tm k : Int) (l : List (Int × Int)) (t : Int) : Int := if ckFade F T S Dl Tm k l ≠ 0 then 0 else if isTm t then fadeAt F T S Dl Tm k l t else 0
def atX (F T S Dl Tm k : Int) (l : List (Int × Int)) (t : Int) : Int := if ckFade F T S Dl Tm k l ≠ 0 then ckFade F T S Dl Tm k l else if isTm t then 0 else 1
theorem at_any (F T S Dl Tm k t : Int) (l : List (Int × Int)) (sv : Value) (w : World) (h : PtsAny w sv l) :
    Calls Tryd.prog 13 #[.agg #[.int .i64 F, .int .i64 T, .int .i64 S, .int .i64 Dl, .int .i64 Tm, .int .i64 k, sv], .int .i64 t] w fun e w' => e = .returned (.tuple #[.int .i64 (atA F T S Dl Tm k l t), .int .i64 (atX F T S Dl Tm k l t)]) ∧ Gr w w' := by
  by_cases hc : ckFade F T S Dl Tm k l = 0
  · cases ht : isTm t with
    | true =>
      have e1 : atA F T S Dl Tm k l t = fadeAt F T S Dl Tm k l t := by unfold atA; rw [if_neg (by simpa using hc), if_pos ht]
      have e2 : atX F T S Dl Tm k l t = 0 := by unfold atX; rw [if_neg (by simpa using hc), if_pos ht]
      rw [e1, e2]; exact at_ok F T S Dl Tm k t l sv w h hc ht
    | false =>
      have e1 : atA F T S Dl Tm k l t = 0 := by unfold atA; rw [if_neg (by simpa using hc), if_neg (by rw [ht]; decide)]
      have e2 : atX F T S Dl Tm k l t = 1 := by unfold atX; rw [if_neg (by simpa using hc), if_neg (by rw [ht]; decide)]
      rw [e1, e2]; exact at_tm F T S Dl Tm k t l sv w h hc ht
  · have e1 : atA F T S Dl Tm k l t = 0 := by unfold atA; rw [if_pos hc]
    have e2 : atX F T S Dl Tm k l t = ckFade F T S Dl Tm k l := by unfold atX; rw [if_pos hc]
    rw [e1, e2]; exact at_ck F T S Dl Tm k t l sv w h _ rfl hc
theorem at_bad {F T S Dl Tm k t : Int} {l : List (Int × Int)} (h : atX F T S Dl Tm k l t ≠ 0) : atA F T S Dl Tm k l t = 0 := by
  unfold atX at h
  unfold atA
  by_cases hc : ckFade F T S Dl Tm k l ≠ 0
  · rw [if_pos hc]
  · rw [if_neg hc] at h ⊢
    cases ht : isTm t with
    | true => rw [ht] at h; exact absurd rfl h
    | false => rfl
theorem at_good {F T S Dl Tm k t : Int} {l : List (Int × Int)} (h : atX F T S Dl Tm k l t = 0) : ckFade F T S Dl Tm k l = 0 ∧ isTm t = true ∧ atA F T S Dl Tm k l t = fadeAt F T S Dl Tm k l t := by
  unfold atX at h
  unfold atA
  by_cases hc : ckFade F T S Dl Tm k l ≠ 0
  · rw [if_pos hc] at h; exact absurd h hc
  · rw [if_neg hc] at h ⊢
    cases ht : isTm t with
    | true => exact ⟨by simpa using hc, rfl, rfl⟩
    | false => rw [ht] at h; cases h

end Go.Proofs.YtfeeolfekfkdiaaDoor
