/- Check of the reference. -/
import Derived.Test.YtgpblgalklegkaaDoorPkS
namespace Go.Proofs.YtgpblgalklegkaaDoor
open Go.RowKit Go.Sort

set_option maxRecDepth 100000 in
set_option maxHeartbeats 1600000 in
theorem check_pref (p : Pk) (sv : Value) (w : World) (hsv : PkV w sv p.args) :
    Calls Tryd.prog 11 #[.agg #[.int .i64 p.kind, .int .i64 p.frm, .int .i64 p.to, sv]] w fun e w' => e = .returned (.int .i64 (ckP p)) ∧ Bl w w' := by
  obtain ⟨o, cap, rfl, hm⟩ := hsv.form
  obtain ⟨W0, hW0⟩ : ∃ W0, W0 = w.alloc (.cells #[.int .i64 p.kind, .int .i64 p.frm, .int .i64 p.to, .slice o p.args.length cap] 24) := ⟨_, rfl⟩
  have bW : Bl w W0 := by rw [hW0]; exact (Bl.refl w).alloc _
  have KK := Lib.hid (fun w' (m : Bl W0 w') => show w'.cell? ⟨w.heap.size, 0, none⟩ = some (.int .i64 p.kind) ∧ w'.cell? ⟨w.heap.size, 1, none⟩ = some (.int .i64 p.frm) ∧ w'.cell? ⟨w.heap.size, 2, none⟩ = some (.int .i64 p.to) ∧ w'.cell? ⟨w.heap.size, 3, none⟩ = some (.slice o p.args.length cap) from ⟨m.cell (by rw [hW0]; simp), m.cell (by rw [hW0]; simp), m.cell (by rw [hW0]; simp), m.cell (by rw [hW0]; simp)⟩)
  have hP := parts_ref 12 (Nat.le_refl _) p _ W0 (hsv.bl bW)
  rw [show (13 - ((12 : Nat) : Int)) = 1 from rfl] at hP
  have HP := Lib.hid hP
  have hsr := small_ref p
  have hca := Lib.hid (fun (h1 : smallP p = true) w' (m : Bl w w') => argOk 12 p (.slice o p.args.length cap) w' (hsv.bl m) (by unfold smallP at h1; rw [Bool.and_eq_true] at h1; exact h1.1) (by unfold smallP at h1; rw [Bool.and_eq_true, decide_eq_true_eq] at h1; exact h1.2))
  obtain ⟨k0, k1, k2, k3⟩ := KK.out _ (Bl.refl _)
  have m1 := cntD_le 12 p
  have m2 := depD_le 12 p
  clear hP hsv
  generalize cntD 12 p = q1 at *
  generalize depD 12 p = q2 at *
  cases hsm : smallP p with
  | false =>
    have e : Hid (ckP p = 2) := by show _ = _; unfold ckP; rw [hsm, if_neg (by decide)]
    rw [hsm] at hsr
    have key : (200 : Int) < q1 ∨ (¬ (200 : Int) < q1 ∧ (12 : Int) < q2) := by
      simp only [Bool.not_false, Bool.or_eq_true, decide_eq_true_eq] at hsr
      omega
    clear hsm hsr hca
    rcases key with g1 | ⟨g1, g2⟩
    · go_enter Tryd.func11, Tryd.ntmps11
      go_wp2_with fail
      rw [← hW0]
      clear hW0
      refine HP.out.mono ?_
      rintro e1 w1 ⟨rfl, b1⟩
      go_wp2_with fail
      go_returns
      exact ⟨ret_int e.out.symm, bW.trans b1⟩
    · go_enter Tryd.func11, Tryd.ntmps11
      go_wp2_with fail
      rw [← hW0]
      clear hW0
      refine HP.out.mono ?_
      rintro e1 w1 ⟨rfl, b1⟩
      go_wp2_with fail
      go_returns
      exact ⟨ret_int e.out.symm, bW.trans b1⟩
  | true =>
    have e : Hid (ckP p = ckL (preD 12 p)) := by show _ = _; unfold ckP; rw [hsm, if_pos rfl]
    rw [hsm] at hsr
    have HC := Lib.hid (hca.out hsm)
    have g1 : ¬ (200 : Int) < q1 := by
      simp only [Bool.not_true, Bool.or_eq_false_iff, decide_eq_false_iff_not] at hsr
      omega
    have g2 : ¬ (12 : Int) < q2 := by
      simp only [Bool.not_true, Bool.or_eq_false_iff, decide_eq_false_iff_not] at hsr
      omega
    generalize ckL (preD 12 p) = X at *
    clear hsm hsr hca
    go_enter Tryd.func11, Tryd.ntmps11
    go_wp2_with fail
    rw [← hW0]
    clear hW0
    refine HP.out.mono ?_
    rintro e1 w1 ⟨rfl, b1⟩
    clear k0 k1 k2 k3
    obtain ⟨k0, k1, k2, k3⟩ := KK.out _ b1
    go_wp2_with fail
    refine (HC.out _ (bW.trans b1)).mono ?_
    rintro e1 w2 ⟨rfl, b2⟩
    go_wp2_with fail
    go_returns
    exact ⟨ret_int e.out.symm, (bW.trans b1).trans b2⟩
end Go.Proofs.YtgpblgalklegkaaDoor
