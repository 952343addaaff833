/- CheckCurve: what is wrong with a curve. -/
import Derived.Test.YtdienaigmkaheaaShape
import Derived.BigQuiet
namespace Go.Proofs.Ytdienaigmkaheaa
open Go.RowKit Go.Sort

def outP (x : Int × Int) : Bool := decide (x.1 < 0) || decide (1000 < x.1) || decide (x.2 < 0) || decide (1000 < x.2)
/-- Is a point out of order behind the one ahead of it, from place k on? -/
def inOrder (l : List (Int × Int)) (k : Nat) : Prop := (l[k]?.getD (0, 0)).1 < (l[k + 1]?.getD (0, 0)).1 ∧ (l[k]?.getD (0, 0)).2 ≤ (l[k + 1]?.getD (0, 0)).2
instance (l : List (Int × Int)) (k : Nat) : Decidable (inOrder l k) := by unfold inOrder; exact inferInstance
def ordered (l : List (Int × Int)) : Bool := (List.range (l.length - 1)).all fun k => decide (inOrder l k)
theorem ordered_iff (l : List (Int × Int)) : ordered l = true ↔ ∀ k, k + 1 < l.length → inOrder l k := by
  unfold ordered
  rw [List.all_eq_true]
  constructor
  · intro h k hk
    simpa using h k (List.mem_range.2 (by omega))
  · intro h k hk
    have := List.mem_range.1 hk
    simpa using h k (by omega)
/-- What is wrong with the points of a table. -/
def ckPts (l : List (Int × Int)) : Int :=
  if l.length < 2 then 8 else if 20 < l.length then 2 else if l.any outP then 1 else if l[0]?.getD (0, 0) ≠ (0, 0) ∨ l[l.length - 1]?.getD (0, 0) ≠ (1000, 1000) then 3 else if ordered l then 0 else 7
def ckCurve (k : Int) (l : List (Int × Int)) : Int :=
  if k < 1 ∨ 6 < k then 4 else if k = 6 then ckPts l else if 0 < l.length then 3 else 0

theorem okTab_of (l : List (Int × Int)) (h : ckPts l = 0) : OkTab l := by
  unfold ckPts at h
  by_cases h1 : l.length < 2
  · rw [if_pos h1] at h; omega
  rw [if_neg h1] at h
  by_cases h2 : 20 < l.length
  · rw [if_pos h2] at h; omega
  rw [if_neg h2] at h
  by_cases h3 : l.any outP = true
  · rw [if_pos h3] at h; omega
  rw [if_neg h3] at h
  by_cases h4 : l[0]?.getD (0, 0) ≠ (0, 0) ∨ l[l.length - 1]?.getD (0, 0) ≠ (1000, 1000)
  · rw [if_pos h4] at h; omega
  rw [if_neg h4] at h
  by_cases h5 : ordered l = true
  · have e1 : l[0]?.getD (0, 0) = (0, 0) := Classical.not_not.1 fun hn => h4 (Or.inl hn)
    have e2 : l[l.length - 1]?.getD (0, 0) = (1000, 1000) := Classical.not_not.1 fun hn => h4 (Or.inr hn)
    refine ⟨by omega, by omega, fun i hi => ?_, e1, e2, (ordered_iff l).1 h5⟩
    have h6 : outP (l[i]?.getD (0, 0)) = false := by
      rw [Bool.eq_false_iff]
      intro hn
      apply h3
      rw [List.any_eq_true]
      exact ⟨_, by rw [List.getElem?_eq_getElem hi, Option.getD_some]; exact List.getElem_mem hi, hn⟩
    unfold outP at h6
    simp only [Bool.or_eq_false_iff, decide_eq_false_iff_not] at h6
    omega
  · rw [if_neg h5] at h; omega

set_option maxHeartbeats 400000 in
theorem outside_any (t v : Int) (w : World) :
    Calls Try.prog 66 #[.agg #[.int .i64 t, .int .i64 v]] w fun e w' => e = .returned (.bool (outP (t, v))) ∧ Gr w w' := by
  go_enter Try.func66, Try.ntmps66
  go_wp2
  all_goals go_returns
  all_goals refine ⟨?_, (Gr.refl w).alloc _⟩
  all_goals first
    | rfl
    | (refine ret_bool ?_; simp [outP]; omega)

/-- Found or not. -/
def PIdx (b : Bool) (w : World) (e : Ending) (w' : World) : Prop := ∃ r : Int, e = .returned (.int .i64 r) ∧ -1 ≤ r ∧ decide (0 ≤ r) = b ∧ Gr w w'

set_option maxHeartbeats 800000 in
theorem index_any (b off cap : Nat) (l : List (Int × Int)) (w : World) (hP : Pts w b off l) (hm : l.length ≤ 9223372036854775807) :
    Calls Try.prog 79 #[.slice (some ⟨b, off, none⟩) l.length cap, .func (.func 66) #[] #[]] w (PIdx (l.any outP) w) := by
  have HP := Lib.hid hP
  clear hP
  go_enter Try.func79, Try.ntmps79
  go_wp2_with fail
  go_loopw [8] (fun v8 wr => ∃ k : Nat, k ≤ l.length ∧ v8 = .int .i64 k ∧ Gr w wr ∧ ∀ i, i < k → outP (l[i]?.getD (0, 0)) = false) (fun v8 _ => l.length - (intOf v8).toNat)
  case atStart => exact ⟨0, Nat.zero_le _, rfl, Gr.refl _, fun i hi => absurd hi (Nat.not_lt_zero _)⟩
  case round =>
    obtain ⟨k, hk, rfl, hg, ha⟩ := hrel
    have HA := Lib.hid ha
    clear ha
    by_cases hlt : k < l.length
    · obtain ⟨t, v, ep⟩ : ∃ t v, l[k]?.getD (0, 0) = (t, v) := ⟨_, _, rfl⟩
      have HPk := HP.out k hlt
      rw [ep] at HPk
      have c1 := hg.cell HPk.1
      have c2 := hg.cell HPk.2
      simp only at c1 c2
      have EP := Lib.hid ep
      clear ep HPk
      have hO := fun w => outside_any t v w
      cases hz : outP (t, v) with
      | false =>
        rw [hz] at hO
        have HO := Lib.hid hO
        have HZ := Lib.hid hz
        clear hO hz
        go_wp2_with (go_at_call 66; refine (HO.out _).mono ?_; rintro e w' ⟨rfl, hg2⟩)
        go_roundw
        case rel => exact ⟨k + 1, by omega, by go_num, hg.trans hg2, fun i hi => by
          by_cases h : i < k
          · exact HA.out i h
          · obtain rfl : i = k := by omega
            rw [EP.out]; exact HZ.out⟩
        case measure => simp [intOf]; omega
      | true =>
        rw [hz] at hO
        have HO := Lib.hid hO
        have HZ := Lib.hid hz
        clear hO hz
        go_wp2_with (go_at_call 66; refine (HO.out _).mono ?_; rintro e w' ⟨rfl, hg2⟩)
        go_returns
        refine ⟨_, rfl, by omega, ?_, hg.trans hg2⟩
        have h1 : l.any outP = true := by
          rw [List.any_eq_true]
          refine ⟨l[k]?.getD (0, 0), by rw [List.getElem?_eq_getElem hlt, Option.getD_some]; exact List.getElem_mem hlt, ?_⟩
          rw [EP.out]; exact HZ.out
        rw [h1]
        simp
    · obtain rfl : k = l.length := by omega
      go_wp2
      go_returns
      refine ⟨_, rfl, by omega, ?_, hg⟩
      have h1 : l.any outP = false := by
        rw [Bool.eq_false_iff]
        intro h
        rw [List.any_eq_true] at h
        obtain ⟨x, hx, h2⟩ := h
        obtain ⟨i, hi, rfl⟩ := List.getElem_of_mem hx
        have := HA.out i hi
        rw [List.getElem?_eq_getElem hi, Option.getD_some, h2] at this
        cases this
      rw [h1]
      rfl

set_option maxHeartbeats 400000 in
theorem contains_any (b off cap : Nat) (l : List (Int × Int)) (w : World) (hP : Pts w b off l) (hm : l.length ≤ 9223372036854775807) :
    Calls Try.prog 67 #[.slice (some ⟨b, off, none⟩) l.length cap, .func (.func 66) #[] #[]] w fun e w' => e = .returned (.bool (l.any outP)) ∧ Gr w w' := by
  have HI := Lib.hid (index_any b off cap l w hP hm)
  clear hP
  go_enter Try.func67, Try.ntmps67
  go_wp2_with fail
  refine HI.out.mono ?_
  rintro e w' ⟨r, rfl, h1, h2, hg⟩
  have H2 := Lib.hid h2
  clear h2
  go_wp2
  go_returns
  exact ⟨ret_bool H2.out, hg⟩

set_option maxHeartbeats 800000 in
theorem checkPoints_any (b off cap : Nat) (l : List (Int × Int)) (w : World) (hP : Pts w b off l) (hm : l.length ≤ 9223372036854775807) :
    Calls Try.prog 45 #[.slice (some ⟨b, off, none⟩) l.length cap] w fun e w' => e = .returned (.int .i64 (ckPts l)) ∧ Gr w w' := by
  have HC := Lib.hid (fun w' (g : Gr w w') => contains_any b off cap l w' (hP.gr g) hm)
  have HP := Lib.hid hP
  clear hP
  by_cases h1 : l.length < 2
  · have e : Hid (ckPts l = 8) := by unfold ckPts; exact if_pos h1
    go_enter Try.func45, Try.ntmps45
    go_wp2_with fail
    go_returns
    exact ⟨ret_int e.out.symm, Gr.refl w⟩
  by_cases h2 : 20 < l.length
  · have e : Hid (ckPts l = 2) := by unfold ckPts; rw [if_neg h1]; exact if_pos h2
    go_enter Try.func45, Try.ntmps45
    go_wp2_with fail
    go_returns
    exact ⟨ret_int e.out.symm, Gr.refl w⟩
  cases h3 : l.any outP with
  | true =>
    have e : Hid (ckPts l = 1) := by unfold ckPts; rw [if_neg h1, if_neg h2]; exact if_pos h3
    rw [h3] at HC
    clear h3
    go_enter Try.func45, Try.ntmps45
    go_wp2_with fail
    refine (HC.out _ (by first | exact Gr.refl _ | exact (Gr.refl _).alloc _)).mono ?_
    rintro e' w1 ⟨rfl, hg⟩
    go_wp2_with fail
    go_returns
    exact ⟨ret_int e.out.symm, hg⟩
  | false =>
    rw [h3] at HC
    obtain ⟨t0, v0, e0⟩ : ∃ t v, l[0]?.getD (0, 0) = (t, v) := ⟨_, _, rfl⟩
    obtain ⟨tn, vn, en⟩ : ∃ t v, l[l.length - 1]?.getD (0, 0) = (t, v) := ⟨_, _, rfl⟩
    obtain ⟨c1, c2⟩ := HP.out 0 (by omega)
    obtain ⟨c3, c4⟩ := HP.out (l.length - 1) (by omega)
    rw [e0] at c1 c2
    rw [en] at c3 c4
    simp only [Nat.zero_mul, Nat.add_zero] at c1 c2 c3 c4
    have E0 := Lib.hid e0
    have EN := Lib.hid en
    have H3 := Lib.hid h3
    clear e0 en h3
    by_cases hends : t0 = 0 ∧ v0 = 0 ∧ tn = 1000 ∧ vn = 1000
    · obtain ⟨rfl, rfl, rfl, rfl⟩ := hends
      have hlast : Hid (∀ r : Int, r = (if ordered l then 0 else 7) → ckPts l = r) := fun r hr => by
        unfold ckPts
        rw [if_neg h1, if_neg h2, if_neg (by rw [H3.out]; simp), if_neg (by rw [E0.out, EN.out]; simp), hr]
      go_enter Try.func45, Try.ntmps45
      go_wp2_with fail
      refine (HC.out _ (by first | exact Gr.refl _ | exact (Gr.refl _).alloc _)).mono ?_
      rintro e' w1 ⟨rfl, hg⟩
      have d1 := hg.cell c1
      have d2 := hg.cell c2
      have d3 := hg.cell c3
      have d4 := hg.cell c4
      clear c1 c2 c3 c4
      go_wp2_with fail
      clear d1 d2 d3 d4
      go_loopw [4] (fun v4 wr => ∃ k : Nat, 1 ≤ k ∧ k ≤ l.length ∧ v4 = .int .i64 k ∧ Gr w wr ∧ ∀ j, j + 1 < k → inOrder l j) (fun v4 _ => l.length - (intOf v4).toNat)
      case atStart => exact ⟨1, by omega, by omega, rfl, hg, fun j hj => by omega⟩
      case round =>
        obtain ⟨k, hk1, hk, rfl, hgr, ha⟩ := hrel
        have HA := Lib.hid ha
        clear ha
        by_cases hlt : k < l.length
        · obtain ⟨m, hmk⟩ : ∃ m, k = m + 1 := ⟨k - 1, by omega⟩
          obtain ⟨ta, va, ea⟩ : ∃ t v, l[m]?.getD (0, 0) = (t, v) := ⟨_, _, rfl⟩
          obtain ⟨tb, vb, eb⟩ : ∃ t v, l[k]?.getD (0, 0) = (t, v) := ⟨_, _, rfl⟩
          have HPa := HP.out m (by omega)
          have HPb := HP.out k hlt
          rw [ea] at HPa
          rw [eb] at HPb
          have c1 := hgr.cell HPa.1
          have c2 := hgr.cell HPa.2
          have c3 := hgr.cell HPb.1
          have c4 := hgr.cell HPb.2
          simp only at c1 c2 c3 c4
          have hkw : IntKind.i64.wrap ((k : Int) - 1) = (m : Int) := by rw [IntWalk.i64_in _ (by omega)]; omega
          have b1 : (0 : Int) ≤ (k : Int) := by omega
          have b2 : (k : Int) < (l.length : Int) := by omega
          have b3 : (0 : Int) ≤ (m : Int) := by omega
          have b4 : (m : Int) < (l.length : Int) := by omega
          have hord : Hid (inOrder l m ↔ ta < tb ∧ va ≤ vb) := by show inOrder l m ↔ _; unfold inOrder; rw [ea, ← hmk, eb]
          have hbad : Hid (¬ (ta < tb ∧ va ≤ vb) → ckPts l = 7) := fun hn => hlast.out 7 (by
            rw [if_neg]
            intro ho
            exact hn (hord.out.1 ((ordered_iff l).1 ho m (by omega))))
          have hgood : Hid (ta < tb ∧ va ≤ vb → ∀ j, j + 1 < k + 1 → inOrder l j) := fun hn j hj => by
            by_cases h : j + 1 < k
            · exact HA.out j h
            · obtain rfl : j = m := by omega
              exact hord.out.2 hn
          have HM := Lib.hid hmk
          clear ea eb HPa HPb hmk
          by_cases q1 : tb ≤ ta
          · go_upto_region 13 with fail
            go_quiet (fail)
            go_wp2
            go_returns
            exact ⟨ret_int (hbad.out (by omega)).symm, hgr.trans (((Gr.refl _).drewN _))⟩
          · have q1' : decide (tb ≤ ta) = false := by simpa using q1
            by_cases q2 : vb < va
            · go_upto_region 13 with fail
              go_quiet (fail)
              go_wp2
              go_returns
              exact ⟨ret_int (hbad.out (by omega)).symm, hgr.trans (((Gr.refl _).drewN _))⟩
            · have q2' : decide (vb < va) = false := by simpa using q2
              go_upto_region 13 with fail
              go_quiet (fail)
              go_wp2
              go_roundw
              case rel => exact ⟨k + 1, by omega, by omega, by go_num, hgr.trans (((Gr.refl _).drewN _)), hgood.out ⟨by omega, by omega⟩⟩
              case measure => simp [intOf]; omega
        · obtain rfl : k = l.length := by omega
          have e : Hid (ckPts l = 0) := hlast.out 0 (by rw [if_pos]; exact (ordered_iff l).2 HA.out)
          go_wp2
          go_returns
          exact ⟨ret_int e.out.symm, hgr⟩
    · have e : Hid (ckPts l = 3) := by
        show ckPts l = 3
        unfold ckPts
        rw [if_neg h1, if_neg h2, if_neg (by rw [H3.out]; simp), if_pos]
        rw [E0.out, EN.out]
        simp only [ne_eq, Prod.mk.injEq]
        omega
      go_enter Try.func45, Try.ntmps45
      go_wp2_with fail
      refine (HC.out _ (by first | exact Gr.refl _ | exact (Gr.refl _).alloc _)).mono ?_
      rintro e' w1 ⟨rfl, hg⟩
      have d1 := hg.cell c1
      have d2 := hg.cell c2
      have d3 := hg.cell c3
      have d4 := hg.cell c4
      clear c1 c2 c3 c4
      go_wp2_with fail
      all_goals go_returns
      all_goals exact ⟨ret_int e.out.symm, hg⟩

set_option maxHeartbeats 400000 in
theorem checkPoints_nil (o : Option Addr) (cap : Nat) (w : World) :
    Calls Try.prog 45 #[.slice o 0 cap] w fun e w' => e = .returned (.int .i64 8) ∧ Gr w w' := by
  go_enter Try.func45, Try.ntmps45
  go_wp2_with fail
  go_returns
  exact ⟨rfl, Gr.refl w⟩

/-- The points of a curve that comes in: none, or a slice. -/
def PtsAny (w : World) (sv : Value) (l : List (Int × Int)) : Prop := (∃ o cap, sv = .slice o 0 cap ∧ l = []) ∨ ∃ b off cap, sv = .slice (some ⟨b, off, none⟩) l.length cap ∧ Pts w b off l ∧ l.length ≤ 9223372036854775807
theorem PtsAny.gr {w w' : World} {sv : Value} {l : List (Int × Int)} (h : PtsAny w sv l) (g : Gr w w') : PtsAny w' sv l := by
  rcases h with h | ⟨b, off, cap, h1, h2, h3⟩
  · exact Or.inl h
  · exact Or.inr ⟨b, off, cap, h1, h2.gr g, h3⟩

set_option maxHeartbeats 800000 in
theorem checkCurve_any (k : Int) (sv : Value) (l : List (Int × Int)) (w : World) (h : PtsAny w sv l) :
    Calls Try.prog 28 #[.agg #[.int .i64 k, sv]] w fun e w' => e = .returned (.int .i64 (ckCurve k l)) ∧ Gr w w' := by
  have hC : Hid (∀ w', Gr w w' → Calls Try.prog 45 #[sv] w' fun e w'' => e = .returned (.int .i64 (ckPts l)) ∧ Gr w' w'') := by
    rcases h with ⟨o, cap, rfl, rfl⟩ | ⟨b, off, cap, rfl, h2, h3⟩
    · intro w' _; exact checkPoints_nil o cap w'
    · intro w' g; exact checkPoints_any b off cap l w' (h2.gr g) h3
  have hL : ∃ (o : Option Addr) (cap : Nat), sv = .slice o l.length cap := by
    rcases h with ⟨o, cap, rfl, rfl⟩ | ⟨b, off, cap, rfl, h2, h3⟩
    · exact ⟨o, cap, rfl⟩
    · exact ⟨_, _, rfl⟩
  obtain ⟨o, cap, rfl⟩ := hL
  clear h
  by_cases h1 : k < 1
  · have e : Hid (ckCurve k l = 4) := by show ckCurve k l = 4; unfold ckCurve; rw [if_pos (Or.inl h1)]
    go_enter Try.func28, Try.ntmps28
    go_wp2_with fail
    go_returns
    exact ⟨ret_int e.out.symm, (Gr.refl w).alloc _⟩
  by_cases h2 : 6 < k
  · have e : Hid (ckCurve k l = 4) := by show ckCurve k l = 4; unfold ckCurve; rw [if_pos (Or.inr h2)]
    go_enter Try.func28, Try.ntmps28
    go_wp2_with fail
    go_returns
    exact ⟨ret_int e.out.symm, (Gr.refl w).alloc _⟩
  by_cases h3 : k = 6
  · subst h3
    have e : Hid (ckCurve 6 l = ckPts l) := by show ckCurve 6 l = ckPts l; unfold ckCurve; rw [if_neg (by omega), if_pos rfl]
    go_enter Try.func28, Try.ntmps28
    go_wp2_with fail
    refine (hC.out _ ((Gr.refl w).alloc _)).mono ?_
    rintro e' w1 ⟨rfl, hg⟩
    go_wp2_with fail
    go_returns
    exact ⟨ret_int e.out.symm, ((Gr.refl w).alloc _).trans hg⟩
  · have h3' : (k == 6) = false := by simpa using h3
    by_cases h4 : 0 < l.length
    · have e : Hid (ckCurve k l = 3) := by show ckCurve k l = 3; unfold ckCurve; rw [if_neg (by omega), if_neg h3, if_pos h4]
      go_enter Try.func28, Try.ntmps28
      go_wp2_with fail
      go_returns
      exact ⟨ret_int e.out.symm, (Gr.refl w).alloc _⟩
    · have e : Hid (ckCurve k l = 0) := by show ckCurve k l = 0; unfold ckCurve; rw [if_neg (by omega), if_neg h3, if_neg h4]
      go_enter Try.func28, Try.ntmps28
      go_wp2_with fail
      go_returns
      exact ⟨ret_int e.out.symm, (Gr.refl w).alloc _⟩

theorem curveAt_of {w : World} {k : Int} {l : List (Int × Int)} {sv : Value} (h : PtsAny w sv l) (hk : ckCurve k l = 0) : CurveAt w k l sv := by
  unfold ckCurve at hk
  by_cases h1 : k < 1 ∨ 6 < k
  · rw [if_pos h1] at hk; omega
  rw [if_neg h1] at hk
  refine ⟨by omega, by omega, fun h6 => ?_⟩
  rw [if_pos h6] at hk
  have hT := okTab_of l hk
  rcases h with ⟨_, _, _, rfl⟩ | ⟨b, off, cap, h1, h2, _⟩
  · exact absurd hT.two (by simp)
  · exact ⟨hT, b, off, cap, h1, h2⟩
end Go.Proofs.Ytdienaigmkaheaa
