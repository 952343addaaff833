/- Fades: CheckFade, course. -/
import Derived.Test.YtfeeolfekfkdiaaDoorLev
import Derived.Test.YtfeeolfekfkdiaaDoorCurves
namespace Go.Proofs.YtfeeolfekfkdiaaDoor
open Go.RowKit Go.Sort

def isTm (n : Int) : Bool := decide (0 ≤ n) && decide (n ≤ 36000000)
theorem isTm_iff {n : Int} : isTm n = true ↔ 0 ≤ n ∧ n ≤ 36000000 := by unfold isTm; simp
set_option maxHeartbeats 400000 in
theorem isTime_any (n : Int) (w : World) :
    Calls Tryd.prog 38 #[.int .i64 n] w fun e w' => e = .returned (.bool (isTm n)) ∧ w = w' := by
  go_enter Tryd.func38, Tryd.ntmps38
  go_wp2
  all_goals go_returns
  · refine ⟨ret_bool ?_, rfl⟩
    have h0 : 0 ≤ n := by assumption
    simp [isTm, h0]
  · refine ⟨ret_bool ?_, rfl⟩
    have h0 : n < 0 := by assumption
    have h1 : ¬ 0 ≤ n := by omega
    simp [isTm, h1]

set_option maxHeartbeats 400000 in
theorem end_any (F T S Dl Tm k : Int) (sv : Value) (w : World) (s0 : 0 ≤ S) (s1 : S ≤ 36000000) (d0 : 0 ≤ Dl) (d1 : Dl ≤ 36000000) (t0 : 0 ≤ Tm) (t1 : Tm ≤ 36000000) :
    Calls Tryd.prog 36 #[.agg #[.int .i64 F, .int .i64 T, .int .i64 S, .int .i64 Dl, .int .i64 Tm, .int .i64 k, sv]] w fun e w' => e = .returned (.int .i64 (S + Dl + Tm)) ∧ w.alloc (.cells #[.int .i64 F, .int .i64 T, .int .i64 S, .int .i64 Dl, .int .i64 Tm, .int .i64 k, sv] 26) = w' := by
  go_enter Tryd.func36, Tryd.ntmps36
  go_wp2
  go_returns
  exact ⟨rfl, rfl⟩

/-- What is wrong with a fade. -/
def ckFade (F T S Dl Tm k : Int) (l : List (Int × Int)) : Int :=
  if (isLev F && isLev T) = false then 1 else if (isTm S && isTm Dl && isTm Tm && isTm (S + Dl + Tm)) = false then 1 else ckCurve k l

set_option maxHeartbeats 1600000 in
theorem checkFade_any (F T S Dl Tm k : Int) (sv : Value) (l : List (Int × Int)) (w : World) (h : PtsAny w sv l) :
    Calls Tryd.prog 32 #[.agg #[.int .i64 F, .int .i64 T, .int .i64 S, .int .i64 Dl, .int .i64 Tm, .int .i64 k, sv]] w fun e w' => e = .returned (.int .i64 (ckFade F T S Dl Tm k l)) ∧ Gr w w' := by
  have HC := Lib.hid (fun w' (g : Gr w w') => checkCurve_any k sv l w' (h.gr g))
  clear h
  have h2 := fun n w hn => are2n F T n w hn
  cases hF : (isLev F && isLev T) with
  | false =>
    have e : Hid (ckFade F T S Dl Tm k l = 1) := by show ckFade F T S Dl Tm k l = 1; unfold ckFade; rw [if_pos hF]
    rw [hF] at h2
    have H2 := Lib.hid h2
    clear h2 hF
    go_enter Tryd.func32, Tryd.ntmps32
    go_wp2_with fail
    refine (H2.out _ _ (by simp)).mono ?_
    rintro e' w1 ⟨rfl, rfl⟩
    go_wp2_with fail
    go_returns
    exact ⟨ret_int e.out.symm, by repeat (first | with_reducible exact Gr.refl _ | with_reducible refine Gr.alloc ?_ _)⟩
  | true =>
    rw [hF] at h2
    have H2 := Lib.hid h2
    have HF := Lib.hid hF
    clear h2 hF
    have tS := fun w => isTime_any S w
    have tD := fun w => isTime_any Dl w
    have tT := fun w => isTime_any Tm w
    have tE := fun w => isTime_any (S + Dl + Tm) w
    cases hS : isTm S with
    | false =>
      have e : Hid (ckFade F T S Dl Tm k l = 1) := by show ckFade F T S Dl Tm k l = 1; unfold ckFade; rw [if_neg (by rw [HF.out]; decide), if_pos (by rw [hS]; rfl)]
      rw [hS] at tS
      have HS := Lib.hid tS
      clear tS tD tT tE hS
      go_enter Tryd.func32, Tryd.ntmps32
      go_wp2_with fail
      refine (H2.out _ _ (by simp)).mono ?_
      rintro e' w1 ⟨rfl, rfl⟩
      go_wp2_with fail
      refine ((HS).out _).mono ?_
      rintro e' w1 ⟨rfl, rfl⟩
      go_wp2_with fail
      go_returns
      exact ⟨ret_int e.out.symm, by repeat (first | with_reducible exact Gr.refl _ | with_reducible refine Gr.alloc ?_ _ | with_reducible refine Gr.drew ?_)⟩

    | true =>
      rw [hS] at tS
      have HS := Lib.hid tS
      obtain ⟨s0, s1⟩ := isTm_iff.1 hS
      have ES := Lib.hid hS
      clear tS hS
      cases hD : isTm Dl with
      | false =>
        have e : Hid (ckFade F T S Dl Tm k l = 1) := by show ckFade F T S Dl Tm k l = 1; unfold ckFade; rw [if_neg (by rw [HF.out]; decide), if_pos (by rw [ES.out, hD]; rfl)]
        rw [hD] at tD
        have HD := Lib.hid tD
        clear tD tT tE hD
        go_enter Tryd.func32, Tryd.ntmps32
        go_wp2_with fail
        refine (H2.out _ _ (by simp)).mono ?_
        rintro e' w1 ⟨rfl, rfl⟩
        go_wp2_with fail
        refine ((HS).out _).mono ?_
        rintro e' w1 ⟨rfl, rfl⟩
        go_wp2_with fail
        refine ((HD).out _).mono ?_
        rintro e' w1 ⟨rfl, rfl⟩
        go_wp2_with fail
        go_returns
        exact ⟨ret_int e.out.symm, by repeat (first | with_reducible exact Gr.refl _ | with_reducible refine Gr.alloc ?_ _ | with_reducible refine Gr.drew ?_)⟩

      | true =>
        rw [hD] at tD
        have HD := Lib.hid tD
        obtain ⟨d0, d1⟩ := isTm_iff.1 hD
        have ED := Lib.hid hD
        clear tD hD
        cases hT : isTm Tm with
        | false =>
          have e : Hid (ckFade F T S Dl Tm k l = 1) := by show ckFade F T S Dl Tm k l = 1; unfold ckFade; rw [if_neg (by rw [HF.out]; decide), if_pos (by rw [ES.out, ED.out, hT]; rfl)]
          rw [hT] at tT
          have HT := Lib.hid tT
          clear tT tE hT
          go_enter Tryd.func32, Tryd.ntmps32
          go_wp2_with fail
          refine (H2.out _ _ (by simp)).mono ?_
          rintro e' w1 ⟨rfl, rfl⟩
          go_wp2_with fail
          refine ((HS).out _).mono ?_
          rintro e' w1 ⟨rfl, rfl⟩
          go_wp2_with fail
          refine ((HD).out _).mono ?_
          rintro e' w1 ⟨rfl, rfl⟩
          go_wp2_with fail
          refine ((HT).out _).mono ?_
          rintro e' w1 ⟨rfl, rfl⟩
          go_wp2_with fail
          go_returns
          exact ⟨ret_int e.out.symm, by repeat (first | with_reducible exact Gr.refl _ | with_reducible refine Gr.alloc ?_ _ | with_reducible refine Gr.drew ?_)⟩

        | true =>
          rw [hT] at tT
          have HT := Lib.hid tT
          obtain ⟨t0, t1⟩ := isTm_iff.1 hT
          have ET := Lib.hid hT
          clear tT hT
          have hEnd := fun w => end_any F T S Dl Tm k sv w s0 s1 d0 d1 t0 t1
          have HEnd := Lib.hid hEnd
          clear hEnd
          cases hE : isTm (S + Dl + Tm) with
          | false =>
            have e : Hid (ckFade F T S Dl Tm k l = 1) := by show ckFade F T S Dl Tm k l = 1; unfold ckFade; rw [if_neg (by rw [HF.out]; decide), if_pos (by rw [ES.out, ED.out, ET.out, hE]; rfl)]
            rw [hE] at tE
            have HE := Lib.hid tE
            clear tE hE
            go_enter Tryd.func32, Tryd.ntmps32
            go_wp2_with fail
            refine (H2.out _ _ (by simp)).mono ?_
            rintro e' w1 ⟨rfl, rfl⟩
            go_wp2_with fail
            refine ((HS).out _).mono ?_
            rintro e' w1 ⟨rfl, rfl⟩
            go_wp2_with fail
            refine ((HD).out _).mono ?_
            rintro e' w1 ⟨rfl, rfl⟩
            go_wp2_with fail
            refine ((HT).out _).mono ?_
            rintro e' w1 ⟨rfl, rfl⟩
            go_wp2_with fail
            refine ((HEnd).out _).mono ?_
            rintro e' w1 ⟨rfl, rfl⟩
            go_wp2_with fail
            refine ((HE).out _).mono ?_
            rintro e' w1 ⟨rfl, rfl⟩
            go_wp2_with fail
            go_returns
            exact ⟨ret_int e.out.symm, by repeat (first | with_reducible exact Gr.refl _ | with_reducible refine Gr.alloc ?_ _ | with_reducible refine Gr.drew ?_)⟩

          | true =>
            have e : Hid (ckFade F T S Dl Tm k l = ckCurve k l) := by show ckFade F T S Dl Tm k l = ckCurve k l; unfold ckFade; rw [if_neg (by rw [HF.out]; decide), if_neg (by rw [ES.out, ED.out, ET.out, hE]; decide)]
            rw [hE] at tE
            have HE := Lib.hid tE
            clear tE hE
            go_enter Tryd.func32, Tryd.ntmps32
            go_wp2_with fail
            refine (H2.out _ _ (by simp)).mono ?_
            rintro e' w1 ⟨rfl, rfl⟩
            go_wp2_with fail
            refine ((HS).out _).mono ?_
            rintro e' w1 ⟨rfl, rfl⟩
            go_wp2_with fail
            refine ((HD).out _).mono ?_
            rintro e' w1 ⟨rfl, rfl⟩
            go_wp2_with fail
            refine ((HT).out _).mono ?_
            rintro e' w1 ⟨rfl, rfl⟩
            go_wp2_with fail
            refine ((HEnd).out _).mono ?_
            rintro e' w1 ⟨rfl, rfl⟩
            go_wp2_with fail
            refine ((HE).out _).mono ?_
            rintro e' w1 ⟨rfl, rfl⟩
            go_wp2_with fail
            refine (HC.out _ (by repeat (first | with_reducible exact Gr.refl _ | with_reducible refine Gr.alloc ?_ _ | with_reducible refine Gr.drew ?_))).mono ?_
            rintro e' w1 ⟨rfl, hg⟩
            go_wp2_with fail
            go_returns
            exact ⟨ret_int e.out.symm, Gr.trans (by repeat (first | with_reducible exact Gr.refl _ | with_reducible refine Gr.alloc ?_ _ | with_reducible refine Gr.drew ?_)) hg⟩
end Go.Proofs.YtfeeolfekfkdiaaDoor
