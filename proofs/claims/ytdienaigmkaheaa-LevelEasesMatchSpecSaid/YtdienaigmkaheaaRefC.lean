/- The reference's CheckCurve. -/
import Derived.Test.YtdienaigmkaheaaRefI
import Derived.Test.YtdienaigmkaheaaCheck
import Derived.Test.YtdienaigmkaheaaBox
namespace Go.Proofs.Ytdienaigmkaheaa
open Go.RowKit

def PCk (c : Int) (w : World) (e : Ending) (w' : World) : Prop := e = .returned (.int .i64 c) ∧ Bl w w'

set_option maxRecDepth 100000 in
set_option maxHeartbeats 3200000 in
/-- A table of two to 20 points. -/
theorem checkTable_ref (b off cap : Nat) (l : List (Int × Int)) (w : World) (hP : Pts w b off l) (h1 : 2 ≤ l.length) (h2 : l.length ≤ 20) :
    Calls Try.prog 30 #[.agg #[.int .i64 6, .slice (some ⟨b, off, none⟩) l.length cap]] w (PCk (ckPts l) w) := by
  have HP := Lib.hid hP
  clear hP
  go_enter Try.func30, Try.ntmps30
  go_wp2_with fail
  refine (withinI 6 1 6 _).mono ?_
  rintro e w1 ⟨rfl, rfl⟩
  go_wp2_with fail
  go_loopw [38] (fun v38 wr => ∃ k : Nat, k ≤ l.length ∧ v38 = .int .i64 k ∧ Bl (w.alloc (.cells #[.int .i64 6, .slice (some ⟨b, off, none⟩) l.length cap] 32)) wr ∧ ∀ i, i < k → outP (l[i]?.getD (0, 0)) = false) (fun v38 _ => l.length - (intOf v38).toNat)
  case atStart => exact ⟨0, Nat.zero_le _, rfl, Bl.refl _, fun i hi => absurd hi (Nat.not_lt_zero _)⟩
  case round =>
    obtain ⟨k, hk, rfl, hbl, ha⟩ := hrel
    have HA := Lib.hid ha
    clear ha
    by_cases hlt : k < l.length
    · obtain ⟨t, v, ep⟩ : ∃ t v, l[k]?.getD (0, 0) = (t, v) := ⟨_, _, rfl⟩
      have HPk := HP.out k hlt
      rw [ep] at HPk
      have c1 := hbl.cell (((Bl.refl w).alloc _).cell HPk.1)
      have c2 := hbl.cell (((Bl.refl w).alloc _).cell HPk.2)
      simp only at c1 c2
      have EP := Lib.hid ep
      clear ep HPk
      have hbad : Hid (outP (t, v) = true → ckPts l = 1) := fun ho => by
        unfold ckPts
        rw [if_neg (by omega), if_neg (by omega), if_pos]
        rw [List.any_eq_true]
        refine ⟨l[k]?.getD (0, 0), by rw [List.getElem?_eq_getElem hlt, Option.getD_some]; exact List.getElem_mem hlt, ?_⟩
        rw [EP.out]; exact ho
      by_cases ht : 0 ≤ t ∧ t ≤ 1000
      · have hb1 : (decide (0 ≤ t) && decide (t ≤ 1000)) = true := by simp; exact ht
        have W1 := Lib.hid (fun w => withinI t 0 1000 w)
        rw [hb1] at W1
        by_cases hv : 0 ≤ v ∧ v ≤ 1000
        · have hb2 : (decide (0 ≤ v) && decide (v ≤ 1000)) = true := by simp; exact hv
          have W2 := Lib.hid (fun w => withinI v 0 1000 w)
          rw [hb2] at W2
          clear hb1 hb2
          go_wp2_with fail
          refine (W1.out _).mono ?_
          rintro e w1 ⟨rfl, rfl⟩
          go_wp2_with fail
          refine (W2.out _).mono ?_
          rintro e w1 ⟨rfl, rfl⟩
          go_wp2_with fail
          go_roundw
          case rel => exact ⟨k + 1, by omega, by go_num, hbl.alloc _, fun i hi => by
            by_cases h : i < k
            · exact HA.out i h
            · obtain rfl : i = k := by omega
              rw [EP.out]; simp [outP]; omega⟩
          case measure => simp [intOf]; omega
        · have hb2 : (decide (0 ≤ v) && decide (v ≤ 1000)) = false := by
            rw [Bool.eq_false_iff]; intro h; apply hv; simpa using h
          have W2 := Lib.hid (fun w => withinI v 0 1000 w)
          rw [hb2] at W2
          have e := Lib.hid (hbad.out (by simp [outP]; omega))
          clear hb1 hb2
          go_wp2_with fail
          refine (W1.out _).mono ?_
          rintro e w1 ⟨rfl, rfl⟩
          go_wp2_with fail
          refine (W2.out _).mono ?_
          rintro e w1 ⟨rfl, rfl⟩
          go_wp2_with fail
          go_returns
          exact ⟨ret_int e.out.symm, (((Bl.refl w).alloc _).trans hbl).alloc _⟩
      · have hb1 : (decide (0 ≤ t) && decide (t ≤ 1000)) = false := by
          rw [Bool.eq_false_iff]; intro h; apply ht; simpa using h
        have W1 := Lib.hid (fun w => withinI t 0 1000 w)
        rw [hb1] at W1
        have e := Lib.hid (hbad.out (by simp [outP]; omega))
        clear hb1
        go_wp2_with fail
        refine (W1.out _).mono ?_
        rintro e w1 ⟨rfl, rfl⟩
        go_wp2_with fail
        go_returns
        exact ⟨ret_int e.out.symm, (((Bl.refl w).alloc _).trans hbl).alloc _⟩
    · have hany : Hid (l.any outP = false) := by
        show l.any outP = false
        rw [Bool.eq_false_iff]
        intro h
        rw [List.any_eq_true] at h
        obtain ⟨x, hx, h2⟩ := h
        obtain ⟨i, hi, rfl⟩ := List.getElem_of_mem hx
        have := HA.out i (by omega)
        rw [List.getElem?_eq_getElem hi, Option.getD_some, h2] at this
        cases this
      obtain ⟨k0, k1⟩ := box2 rfl hbl
      obtain ⟨t0, v0, e0⟩ : ∃ t v, l[0]?.getD (0, 0) = (t, v) := ⟨_, _, rfl⟩
      obtain ⟨tn, vn, en⟩ : ∃ t v, l[l.length - 1]?.getD (0, 0) = (t, v) := ⟨_, _, rfl⟩
      have HPb := Lib.hid (HP.out.bl ((Bl.refl w).alloc (.cells #[.int .i64 6, .slice (some ⟨b, off, none⟩) l.length cap] 32)))
      obtain ⟨c1, c2⟩ := (HPb.out.bl hbl) 0 (by omega)
      obtain ⟨c3, c4⟩ := (HPb.out.bl hbl) (l.length - 1) (by omega)
      rw [e0] at c1 c2
      rw [en] at c3 c4
      simp only [Nat.zero_mul, Nat.add_zero] at c1 c2 c3 c4
      have E0 := Lib.hid e0
      have EN := Lib.hid en
      clear e0 en
      by_cases hends : t0 = 0 ∧ v0 = 0 ∧ tn = 1000 ∧ vn = 1000
      · obtain ⟨rfl, rfl, rfl, rfl⟩ := hends
        have hlast : Hid (∀ r : Int, r = (if ordered l then 0 else 7) → ckPts l = r) := fun r hr => by
          unfold ckPts
          rw [if_neg (by omega), if_neg (by omega), if_neg (by rw [hany.out]; simp), if_neg (by rw [E0.out, EN.out]; simp), hr]
        go_wp2_with fail
        clear k0 k1 c1 c2 c3 c4
        go_loopw [5] (fun v5 wr => ∃ k : Nat, 1 ≤ k ∧ k ≤ l.length ∧ v5 = .int .i64 k ∧ Bl (w.alloc (.cells #[.int .i64 6, .slice (some ⟨b, off, none⟩) l.length cap] 32)) wr ∧ ∀ j, j + 1 < k → inOrder l j) (fun v5 _ => l.length - (intOf v5).toNat)
        case atStart => exact ⟨1, by omega, by omega, rfl, hbl, fun j hj => by omega⟩
        case round =>
          obtain ⟨k, hk1, hk, rfl, hgr, ha2⟩ := hrel
          have HA2 := Lib.hid ha2
          clear ha2
          obtain ⟨k0, k1⟩ := box2 rfl hgr
          by_cases hlt2 : k < l.length
          · obtain ⟨m, hmk⟩ : ∃ m, k = m + 1 := ⟨k - 1, by omega⟩
            obtain ⟨ta, va, ea⟩ : ∃ t v, l[m]?.getD (0, 0) = (t, v) := ⟨_, _, rfl⟩
            obtain ⟨tb, vb, eb⟩ : ∃ t v, l[k]?.getD (0, 0) = (t, v) := ⟨_, _, rfl⟩
            obtain ⟨c1, c2⟩ := (HPb.out.bl hgr) m (by omega)
            obtain ⟨c3, c4⟩ := (HPb.out.bl hgr) k hlt2
            rw [ea] at c1 c2
            rw [eb] at c3 c4
            simp only at c1 c2 c3 c4
            have hkw : IntKind.i64.wrap ((k : Int) - 1) = (m : Int) := by rw [IntWalk.i64_in _ (by omega)]; omega
            have b1 : (0 : Int) ≤ (k : Int) := by omega
            have b2 : (k : Int) < (l.length : Int) := by omega
            have b3 : (0 : Int) ≤ (m : Int) := by omega
            have b4 : (m : Int) < (l.length : Int) := by omega
            have hord : Hid (inOrder l m ↔ ta < tb ∧ va ≤ vb) := by show inOrder l m ↔ _; unfold inOrder; rw [ea, ← hmk, eb]
            have hbad : Hid (¬ (ta < tb ∧ va ≤ vb) → ckPts l = 7) := fun hn => hlast.out 7 (by
              rw [if_neg]
              intro ho
              exact hn (hord.out.1 ((ordered_iff l).1 ho m (by omega))))
            have hgood : Hid (ta < tb ∧ va ≤ vb → ∀ j, j + 1 < k + 1 → inOrder l j) := fun hn j hj => by
              by_cases h : j + 1 < k
              · exact HA2.out j h
              · obtain rfl : j = m := by omega
                exact hord.out.2 hn
            have HM := Lib.hid hmk
            clear ea eb hmk
            by_cases q1 : tb ≤ ta
            · have q1' : decide (tb ≤ ta) = true := by simpa using q1
              go_wp2_with fail
              go_quiet (fail)
              go_wp2
              go_returns
              exact ⟨ret_int (hbad.out (by omega)).symm, ((((Bl.refl w).alloc _).trans hgr).drewN _)⟩
            · have q1' : decide (tb ≤ ta) = false := by simpa using q1
              by_cases q2 : vb < va
              · have q2' : decide (vb < va) = true := by simpa using q2
                go_wp2_with fail
                go_quiet (fail)
                go_wp2
                go_returns
                exact ⟨ret_int (hbad.out (by omega)).symm, ((((Bl.refl w).alloc _).trans hgr).drewN _)⟩
              · have q2' : decide (vb < va) = false := by simpa using q2
                go_wp2_with fail
                go_quiet (fail)
                go_wp2
                go_roundw
                case rel => exact ⟨k + 1, by omega, by omega, by go_num, hgr.drewN _, hgood.out ⟨by omega, by omega⟩⟩
                case measure => simp [intOf]; omega
          · obtain rfl : k = l.length := by omega
            have e : Hid (ckPts l = 0) := hlast.out 0 (by rw [if_pos]; exact (ordered_iff l).2 HA2.out)
            go_wp2
            go_returns
            exact ⟨ret_int e.out.symm, ((Bl.refl w).alloc _).trans hgr⟩
      · have e : Hid (ckPts l = 3) := by
          show ckPts l = 3
          unfold ckPts
          rw [if_neg (by omega), if_neg (by omega), if_neg (by rw [hany.out]; simp), if_pos]
          rw [E0.out, EN.out]
          simp only [ne_eq, Prod.mk.injEq]
          omega
        go_wp2_with fail
        all_goals go_returns
        all_goals exact ⟨ret_int e.out.symm, ((Bl.refl w).alloc _).trans hbl⟩

set_option maxRecDepth 100000 in
set_option maxHeartbeats 1600000 in
theorem checkCurve_ref (k : Int) (sv : Value) (l : List (Int × Int)) (w : World) (h : PtsAny w sv l) :
    Calls Try.prog 30 #[.agg #[.int .i64 k, sv]] w (PCk (ckCurve k l) w) := by
  by_cases htab : k = 6 ∧ 2 ≤ l.length ∧ l.length ≤ 20
  · obtain ⟨rfl, h1, h2⟩ := htab
    have e : ckCurve 6 l = ckPts l := by unfold ckCurve; rw [if_neg (by omega), if_pos rfl]
    rw [e]
    rcases h with ⟨o, cap, _, rfl⟩ | ⟨b, off, cap, rfl, h3, _⟩
    · simp at h1
    · exact checkTable_ref b off cap l w h3 h1 h2
  · have hL : ∃ (o : Option Addr) (cap : Nat), sv = .slice o l.length cap ∧ l.length ≤ 9223372036854775807 := by
      rcases h with ⟨o, cap, rfl, rfl⟩ | ⟨b, off, cap, rfl, h2, h3⟩
      · exact ⟨o, cap, rfl, by simp⟩
      · exact ⟨_, _, rfl, h3⟩
    obtain ⟨o, cap, rfl, hlen⟩ := hL
    clear h
    have W1 := Lib.hid (fun w => withinI k 1 6 w)
    by_cases hk : 1 ≤ k ∧ k ≤ 6
    · have hb1 : (decide (1 ≤ k) && decide (k ≤ 6)) = true := by simp; exact hk
      rw [hb1] at W1
      by_cases h6 : k = 6
      · subst h6
        by_cases hl2 : l.length < 2
        · have e : Hid (ckCurve 6 l = 8) := by show _ = _; unfold ckCurve ckPts; rw [if_neg (by omega), if_pos rfl, if_pos hl2]
          clear hb1 htab
          go_enter Try.func30, Try.ntmps30
          go_wp2_with fail
          refine (W1.out _).mono ?_
          rintro e w1 ⟨rfl, rfl⟩
          go_wp2_with fail
          go_returns
          exact ⟨ret_int e.out.symm, (Bl.refl w).alloc _⟩
        · have hl3 : 20 < l.length := by omega
          have e : Hid (ckCurve 6 l = 2) := by show _ = _; unfold ckCurve ckPts; rw [if_neg (by omega), if_pos rfl, if_neg hl2, if_pos hl3]
          clear hb1 htab
          go_enter Try.func30, Try.ntmps30
          go_wp2_with fail
          refine (W1.out _).mono ?_
          rintro e w1 ⟨rfl, rfl⟩
          go_wp2_with fail
          go_returns
          exact ⟨ret_int e.out.symm, (Bl.refl w).alloc _⟩
      · have h6b : (k != 6) = true := by simpa using h6
        by_cases hl : 0 < l.length
        · have e : Hid (ckCurve k l = 3) := by show _ = _; unfold ckCurve; rw [if_neg (by omega), if_neg h6, if_pos hl]
          clear hb1 htab h6
          go_enter Try.func30, Try.ntmps30
          go_wp2_with fail
          refine (W1.out _).mono ?_
          rintro e w1 ⟨rfl, rfl⟩
          go_wp2_with fail
          go_returns
          exact ⟨ret_int e.out.symm, (Bl.refl w).alloc _⟩
        · have e : Hid (ckCurve k l = 0) := by show _ = _; unfold ckCurve; rw [if_neg (by omega), if_neg h6, if_neg hl]
          clear hb1 htab h6
          go_enter Try.func30, Try.ntmps30
          go_wp2_with fail
          refine (W1.out _).mono ?_
          rintro e w1 ⟨rfl, rfl⟩
          go_wp2_with fail
          go_returns
          exact ⟨ret_int e.out.symm, (Bl.refl w).alloc _⟩
    · have hb1 : (decide (1 ≤ k) && decide (k ≤ 6)) = false := by rw [Bool.eq_false_iff]; intro h; apply hk; simpa using h
      rw [hb1] at W1
      have e : Hid (ckCurve k l = 4) := by show _ = _; unfold ckCurve; rw [if_pos (by omega)]
      clear hb1 htab hk
      go_enter Try.func30, Try.ntmps30
      go_wp2_with fail
      refine (W1.out _).mono ?_
      rintro e w1 ⟨rfl, rfl⟩
      go_wp2_with fail
      go_returns
      exact ⟨ret_int e.out.symm, (Bl.refl w).alloc _⟩
end Go.Proofs.Ytdienaigmkaheaa
