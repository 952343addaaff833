/- Period of both, and what Text answers at any effect. -/
import Derived.Test.YtkllhockcnokeaaDoorEfTr
namespace Go.Proofs.YtkllhockcnokeaaDoor
open Go.RowKit Go.Sort Go.Lib

/-- What Period answers. -/
def perN (e : Eff) : Int := if ckE e = 0 then (if e.frm = 6 then 0 else cycE e) else 0
def perX (e : Eff) : Int := if ckE e = 0 then (if e.frm = 6 then 4 else 0) else ckE e
theorem text_any (e : Eff) (v : Value) (w : World) (hv : StpVal w v e.st) (hpw : PowAt w) (hfw : FwAt w) :
    Calls Tryd.prog 5 #[effV e v] w fun r w' => r = .returned (.tuple #[.string (bs (efS e)), .int .i64 (ckE e)]) ∧ Bl w w' := by
  by_cases hk : ckE e = 0
  · have := text_ok e v w hv hk hpw hfw
    unfold efS; rw [if_pos hk, hk]; exact this
  · have := text_err e v w hv hk
    unfold efS; rw [if_neg hk]; exact this
theorem textR_any (e : Eff) (v : Value) (w : World) (hv : StpVal w v e.st) (hpw : PowAt w) :
    Calls Tryd.prog 6 #[effV e v] w fun r w' => r = .returned (.tuple #[.string (bs (efS e)), .int .i64 (ckE e)]) ∧ Bl w w' := by
  by_cases hk : ckE e = 0
  · have := textR_ok e v w hv hk hpw
    unfold efS; rw [if_pos hk, hk]; exact this
  · have := textR_err e v w hv hk
    unfold efS; rw [if_neg hk]; exact this

set_option maxRecDepth 100000 in
set_option maxHeartbeats 3200000 in
theorem period_any (e : Eff) (v : Value) (w : World) (hv : StpVal w v e.st) :
    Calls Tryd.prog 7 #[effV e v] w fun r w' => r = .returned (.tuple #[.int .i64 (perN e), .int .i64 (perX e)]) ∧ Bl w w' := by
  have HK := Lib.hid (fun w' (m : Bl w w') => check_any e v w' (hv.bl m))
  have HV := Lib.hid hv
  obtain ⟨o, cap, rfl, _, _⟩ := hv
  obtain ⟨W, hW⟩ : ∃ W, W = w.alloc (.cells #[.int .i64 e.frm, .int .i64 e.lo, .int .i64 e.hi, .int .i64 e.cyc, .int .i64 e.wid, .int .i64 e.spr, .bool e.bk, .bool e.rl, .slice o e.st.length cap] 24) := ⟨_, rfl⟩
  have bW : Bl w W := by rw [hW]; exact (Bl.refl w).alloc _
  have HA := Lib.hid (show EffAt W w.heap.size e (.slice o e.st.length cap) by rw [hW]; exact EffAt.new _ _ _ _)
  obtain ⟨c0, c1, c2, c3, c4, c5, c6, c7, c8⟩ := HA.out
  by_cases hk : ckE e = 0
  · rw [hk] at HK
    obtain ⟨_, _, _, _, _, _, h7, _⟩ := ckE_ok hk
    have HY := Lib.hid (fun w' (m : Bl w w') => cycleOf_any e (.slice o e.st.length cap) w' (HV.out.bl m) (fun h => ⟨(h7 h).2.2.2, (h7 h).2.2.1⟩))
    clear h7
    by_cases h6 : e.frm = 6
    · have er : Hid (perN e = 0 ∧ perX e = 4) := ⟨by unfold perN; rw [if_pos hk, if_pos h6], by unfold perX; rw [if_pos hk, if_pos h6]⟩
      have t6 : (e.frm == 6) = true := by simp [h6]
      clear h6 hk
      unfold effV at *
      go_enter Tryd.func7, Tryd.ntmps7
      go_wp2_with fail
      rw [← hW]
      clear hW
      go_wp2_with (go_at_call 9; (refine (HK.out _ bW).mono ?_); rintro r w1 ⟨rfl, m1⟩; clear c0 c1 c2 c3 c4 c5 c6 c7 c8; obtain ⟨c0, c1, c2, c3, c4, c5, c6, c7, c8⟩ := HA.out.bl m1)
      go_ret2
      exact ⟨by rw [er.out.1, er.out.2]; rfl, bW.trans m1⟩
    · have er : Hid (cycE e = perN e ∧ perX e = 0) := ⟨by unfold perN; rw [if_pos hk, if_neg h6], by unfold perX; rw [if_pos hk, if_neg h6]⟩
      have t6 : (e.frm == 6) = false := by simpa using h6
      clear h6 hk
      rw [er.out.1] at HY
      unfold effV at *
      go_enter Tryd.func7, Tryd.ntmps7
      go_wp2_with fail
      rw [← hW]
      clear hW
      go_wp2_with (first
        | (go_at_call 9; (refine (HK.out _ bW).mono ?_); rintro r w1 ⟨rfl, m1⟩; clear c0 c1 c2 c3 c4 c5 c6 c7 c8; obtain ⟨c0, c1, c2, c3, c4, c5, c6, c7, c8⟩ := HA.out.bl m1)
        | (go_at_call 20; (refine (HY.out _ (bW.trans m1)).mono ?_); rintro r w2 ⟨rfl, m2⟩))
      go_ret2
      exact ⟨by rw [er.out.2]; rfl, bW.trans (m1.trans m2)⟩
  · have er : Hid (perN e = 0 ∧ perX e = ckE e) := ⟨by unfold perN; rw [if_neg hk], by unfold perX; rw [if_neg hk]⟩
    have t1 : (ckE e != 0) = true := by simpa using hk
    clear hk
    rw [← er.out.2] at t1 HK
    unfold effV at *
    go_enter Tryd.func7, Tryd.ntmps7
    go_wp2_with fail
    rw [← hW]
    clear hW
    go_wp2_with (go_at_call 9; (refine (HK.out _ bW).mono ?_); rintro r w1 ⟨rfl, m1⟩)
    go_ret2
    exact ⟨by rw [er.out.1]; rfl, bW.trans m1⟩

set_option maxRecDepth 100000 in
set_option maxHeartbeats 3200000 in
theorem periodR_any (e : Eff) (v : Value) (w : World) (hv : StpVal w v e.st) :
    Calls Tryd.prog 8 #[effV e v] w fun r w' => r = .returned (.tuple #[.int .i64 (perN e), .int .i64 (perX e)]) ∧ Bl w w' := by
  have HK := Lib.hid (fun w' (m : Bl w w') => checkR_any e v w' (hv.bl m))
  have HV := Lib.hid hv
  obtain ⟨o, cap, rfl, _, _⟩ := hv
  obtain ⟨W, hW⟩ : ∃ W, W = w.alloc (.cells #[.int .i64 e.frm, .int .i64 e.lo, .int .i64 e.hi, .int .i64 e.cyc, .int .i64 e.wid, .int .i64 e.spr, .bool e.bk, .bool e.rl, .slice o e.st.length cap] 24) := ⟨_, rfl⟩
  have bW : Bl w W := by rw [hW]; exact (Bl.refl w).alloc _
  have HA := Lib.hid (show EffAt W w.heap.size e (.slice o e.st.length cap) by rw [hW]; exact EffAt.new _ _ _ _)
  obtain ⟨c0, c1, c2, c3, c4, c5, c6, c7, c8⟩ := HA.out
  by_cases hk : ckE e = 0
  · rw [hk] at HK
    obtain ⟨_, _, _, _, _, _, h7, _⟩ := ckE_ok hk
    have HY := Lib.hid (fun w' (m : Bl w w') => cycleR_any e (.slice o e.st.length cap) w' (HV.out.bl m) (fun h => ⟨(h7 h).2.2.2, (h7 h).2.2.1⟩))
    clear h7
    by_cases h6 : e.frm = 6
    · have er : Hid (perN e = 0 ∧ perX e = 4) := ⟨by unfold perN; rw [if_pos hk, if_pos h6], by unfold perX; rw [if_pos hk, if_pos h6]⟩
      have t6 : (e.frm == 6) = true := by simp [h6]
      clear h6 hk
      unfold effV at *
      go_enter Tryd.func8, Tryd.ntmps8
      go_wp2_with fail
      rw [← hW]
      clear hW
      go_wp2_with (go_at_call 10; (refine (HK.out _ bW).mono ?_); rintro r w1 ⟨rfl, m1⟩; clear c0 c1 c2 c3 c4 c5 c6 c7 c8; obtain ⟨c0, c1, c2, c3, c4, c5, c6, c7, c8⟩ := HA.out.bl m1)
      go_ret2
      exact ⟨by rw [er.out.1, er.out.2]; rfl, bW.trans m1⟩
    · have er : Hid (cycE e = perN e ∧ perX e = 0) := ⟨by unfold perN; rw [if_pos hk, if_neg h6], by unfold perX; rw [if_pos hk, if_neg h6]⟩
      have t6 : (e.frm == 6) = false := by simpa using h6
      clear h6 hk
      rw [er.out.1] at HY
      unfold effV at *
      go_enter Tryd.func8, Tryd.ntmps8
      go_wp2_with fail
      rw [← hW]
      clear hW
      go_wp2_with (first
        | (go_at_call 10; (refine (HK.out _ bW).mono ?_); rintro r w1 ⟨rfl, m1⟩; clear c0 c1 c2 c3 c4 c5 c6 c7 c8; obtain ⟨c0, c1, c2, c3, c4, c5, c6, c7, c8⟩ := HA.out.bl m1)
        | (go_at_call 21; (refine (HY.out _ (bW.trans m1)).mono ?_); rintro r w2 ⟨rfl, m2⟩))
      go_ret2
      exact ⟨by rw [er.out.2]; rfl, bW.trans (m1.trans m2)⟩
  · have er : Hid (perN e = 0 ∧ perX e = ckE e) := ⟨by unfold perN; rw [if_neg hk], by unfold perX; rw [if_neg hk]⟩
    have t1 : (ckE e != 0) = true := by simpa using hk
    clear hk
    rw [← er.out.2] at t1 HK
    unfold effV at *
    go_enter Tryd.func8, Tryd.ntmps8
    go_wp2_with fail
    rw [← hW]
    clear hW
    go_wp2_with (go_at_call 10; (refine (HK.out _ bW).mono ?_); rintro r w1 ⟨rfl, m1⟩)
    go_ret2
    exact ⟨by rw [er.out.1]; rfl, bW.trans m1⟩
end Go.Proofs.YtkllhockcnokeaaDoor
