/- Text of the reference. -/
import Derived.Test.YtkllhockcnokeaaDoorEfTp
import Derived.Test.YtkllhockcnokeaaDoorEfR
import Derived.Test.YtkllhockcnokeaaDoorShoR
import Derived.Test.YtkllhockcnokeaaDoorSwH
namespace Go.Proofs.YtkllhockcnokeaaDoor
open Go.RowKit Go.Sort Go.Lib

theorem checkR_any (e : Eff) (v : Value) (w : World) (hv : StpVal w v e.st) :
    Calls Tryd.prog 10 #[effV e v] w fun r w' => r = .returned (.int .i64 (ckE e)) ∧ Bl w w' := by
  by_cases h7 : e.frm = 7
  · exact checkR_7 e v w hv h7
  by_cases h4 : e.frm = 4
  · exact checkR_4 e v w hv h4
  by_cases hr : 1 ≤ e.frm ∧ e.frm ≤ 7
  · exact checkR_x e v w hv ⟨hr.1, hr.2, h7, h4⟩
  have er : Hid (ckE e = 4) := by show _ = _; unfold ckE; rw [if_pos (by omega)]
  have HY := Lib.hid (fun w => within_at e.frm 1 7 false w (inR_no hr))
  obtain ⟨o, cap, rfl, _, _⟩ := hv
  unfold effV
  clear h7 h4 hr
  go_enter Tryd.func10, Tryd.ntmps10
  go_wp2_with (go_at_call 26; (with_reducible refine (HY.out _).mono ?_); rintro r w1 ⟨rfl, rfl⟩)
  go_ret
  exact ⟨ret_int er.out.symm, (Bl.refl w).alloc _⟩
theorem wordsR_any (w : World) :
    Calls Tryd.prog 18 #[] w fun e w' => ∃ (b c : Nat), e = .returned (.slice (some ⟨b, 0, none⟩) 8 c) ∧ Bl w w' ∧ ∀ g : Nat, g ≤ 7 → w'.cell? ⟨b, g, none⟩ = some (.string (bs (fW g))) := by
  go_enter Tryd.func18, Tryd.ntmps18
  go_wp2
  go_returns
  refine ⟨_, _, rfl, (by first | exact (Bl.refl w).alloc _ | exact ((Bl.refl w).alloc _).alloc _), fun g hg => ?_⟩
  have key : g = 0 ∨ g = 1 ∨ g = 2 ∨ g = 3 ∨ g = 4 ∨ g = 5 ∨ g = 6 ∨ g = 7 := by omega
  rcases key with rfl | rfl | rfl | rfl | rfl | rfl | rfl | rfl <;> (simp; rfl)
set_option maxHeartbeats 800000 in
theorem showR_ef (n : Int) (w : World) (h0 : 0 ≤ n) (h1 : n ≤ 65535) (ht : PowAt w) :
    Calls Tryd.prog 19 #[.int .i64 n] w fun e w' => e = .returned (.string (bs (lvShow n))) ∧ Bl w w' := by
  have hl : isLev n = true := isLev_iff.2 ⟨h0, h1⟩
  have e1 : lsR n = .returned (.tuple #[.string (bs (lvShow n)), .int .i64 0]) := by unfold lsR; rw [if_pos hl, if_pos hl]
  have H := Lib.hid (showR n w ht)
  rw [e1] at H
  generalize bs (lvShow n) = S at *
  clear e1 hl ht
  go_enter Tryd.func19, Tryd.ntmps19
  go_wp2_with (go_at_call 32; refine H.out.mono ?_; rintro e w1 ⟨rfl, m1⟩)
  go_returns
  exact ⟨rfl, m1.bl⟩

set_option maxRecDepth 100000 in
set_option maxHeartbeats 12800000 in
theorem textR_err (e : Eff) (v : Value) (w : World) (hv : StpVal w v e.st) (hk : ckE e ≠ 0) :
    Calls Tryd.prog 6 #[effV e v] w fun r w' => r = .returned (.tuple #[.string (bs []), .int .i64 (ckE e)]) ∧ Bl w w' := by
  have HK := Lib.hid (fun w' (m : Bl w w') => checkR_any e v w' (hv.bl m))
  obtain ⟨o, cap, rfl, _, _⟩ := hv
  have bW := (Bl.refl w).alloc (.cells #[.int .i64 e.frm, .int .i64 e.lo, .int .i64 e.hi, .int .i64 e.cyc, .int .i64 e.wid, .int .i64 e.spr, .bool e.bk, .bool e.rl, .slice o e.st.length cap] 24)
  have t1 : (ckE e != 0) = true := by simpa using hk
  have BW := Lib.hid bW
  clear hk bW
  unfold effV at *
  generalize ckE e = X at *
  go_enter Tryd.func6, Tryd.ntmps6
  go_wp2_with (go_at_call 10; (refine (HK.out _ BW.out).mono ?_); rintro r w1 ⟨rfl, m1⟩)
  go_ret2
  exact ⟨rfl, BW.out.trans m1⟩

set_option maxRecDepth 100000 in
set_option maxHeartbeats 25600000 in
theorem textR_ok (e : Eff) (v : Value) (w : World) (hv : StpVal w v e.st) (hk : ckE e = 0) (hpw : PowAt w) :
    Calls Tryd.prog 6 #[effV e v] w fun r w' => r = .returned (.tuple #[.string (bs (efTxt e)), .int .i64 0]) ∧ Bl w w' := by
  have HK := Lib.hid (fun w' (m : Bl w w') => by have := checkR_any e v w' (hv.bl m); rw [hk] at this; exact this)
  obtain ⟨⟨f1, f7⟩, ⟨l1, l2, l3⟩, ⟨w1, w2⟩, ⟨s1, s2⟩, hcy, _, hst, hno⟩ := ckE_ok hk
  obtain ⟨z0, z1, z2, z3, z4, z5⟩ := efT_len hk
  have hzz := efTxt_len hk
  have HV := Lib.hid hv
  obtain ⟨o, cap, rfl, _, hp⟩ := hv
  have HP := Lib.hid hp
  have HAll : Hid (∀ x ∈ e.st, stpOk x = true) := by
    show ∀ _, _
    intro x hx
    by_cases h7 : e.frm = 7
    · exact List.all_eq_true.1 (hst h7).2.2.2 x hx
    · rw [hno h7] at hx; cases hx
  have HCy : Hid (¬ e.frm = 7 → 1 ≤ e.cyc ∧ e.cyc ≤ 3600000) := by
    show _ → _
    intro h7; unfold cycE at hcy; rw [if_neg h7] at hcy; exact hcy
  have hl50 : e.st.length ≤ 50 := by
    by_cases h7 : e.frm = 7
    · exact (hst h7).2.2.1
    · rw [hno h7]; simp
  clear hp hst hno hcy hk
  obtain ⟨W, hW⟩ : ∃ W, W = w.alloc (.cells #[.int .i64 e.frm, .int .i64 e.lo, .int .i64 e.hi, .int .i64 e.cyc, .int .i64 e.wid, .int .i64 e.spr, .bool e.bk, .bool e.rl, .slice o e.st.length cap] 24) := ⟨_, rfl⟩
  have bW : Bl w W := by rw [hW]; exact (Bl.refl w).alloc _
  have HA := Lib.hid (show EffAt W w.heap.size e (.slice o e.st.length cap) by rw [hW]; exact EffAt.new _ _ _ _)
  have HPW := Lib.hid (fun w' (m : Bl W w') => hpw.bl (bW.trans m))
  have HPw := Lib.hid (fun w' (m : Bl w w') => hpw.bl m)
  have HKW := Lib.hid (fun w' (m : Bl W w') => HK.out w' (bW.trans m))
  obtain ⟨cy, hcy⟩ : ∃ cy, decide (e.frm = 7) = !cy := ⟨!decide (e.frm = 7), by simp⟩
  obtain ⟨wd, hwd⟩ : ∃ wd, decide (e.frm = 4) = wd := ⟨_, rfl⟩
  have HCc := Lib.hid (show (e.frm != 7) = cy by have := hcy; cases cy <;> simp_all)
  have HWd := Lib.hid (show (e.frm == 4) = wd by rw [← hwd]; rfl)
  have Hcy := Lib.hid hcy
  have Hwd := Lib.hid hwd
  obtain ⟨g, hgg⟩ : ∃ g : Nat, e.frm = (g : Int) := ⟨e.frm.toNat, by omega⟩
  have HG := Lib.hid hgg
  have hgi : (g : Int) < 8 := by omega
  have hg7 : g ≤ 7 := by omega
  have ZZ := Lib.hid (show (((efT0 e).length ≤ 40 ∧ (efT1 e).length ≤ 60) ∧ (efT2 e).length ≤ 80 ∧ (efT3 e).length ≤ 100) ∧ ((efT4 e).length ≤ 110 ∧ (efT5 e).length ≤ 120) ∧ (efTxt e).length ≤ 1700 from ⟨⟨⟨z0, z1⟩, z2, z3⟩, ⟨z4, z5⟩, hzz⟩)
  clear hpw HK hcy hwd hgg z0 z1 z2 z3 z4 z5 hzz
  obtain ⟨c0, c1, c2, c3, c4, c5, c6, c7, c8⟩ := HA.out
  unfold effV at *
  go_enter Tryd.func6, Tryd.ntmps6
  go_wp2_with fail
  rw [← hW]
  clear hW
  go_upto_region 4 with (go_at_call 10; (refine (HKW.out _ (Bl.refl W)).mono ?_); rintro r w1 ⟨rfl, m1⟩; have B1 := Lib.hid m1; clear m1)
  go_cut [5] (fun s5 wx => TxR W (efT0 e) s5 wx)
  case first =>
    clear c0 c1 c2 c3 c4 c5 c6 c7 c8
    obtain ⟨c0, c1, c2, _, _, _, _, _, _⟩ := HA.out.bl B1.out
    rw [HG.out] at c0
    have HS1 := Lib.hid (fun w' (m : Bl w1 w') => showR_ef e.lo w' l1 (by omega) (HPW.out w' (B1.out.trans m)))
    have HS2 := Lib.hid (fun w' (m : Bl w1 w') => showR_ef e.hi w' (by omega) l3 (HPW.out w' (B1.out.trans m)))
    have hA8 : (bs (fW g)).size ≤ 8 := by rw [bs_size]; exact fW_len g
    have hL10 : (bs (lvShow e.lo)).size ≤ 10 := by rw [bs_size]; exact lvShow_l10 l1 (by omega)
    have hH10 : (bs (lvShow e.hi)).size ≤ 10 := by rw [bs_size]; exact lvShow_l10 (by omega) l3
    obtain ⟨Ga, hGa⟩ : ∃ G, G = bs (fW g) := ⟨_, rfl⟩
    obtain ⟨La, hLa⟩ : ∃ G, G = bs (lvShow e.lo) := ⟨_, rfl⟩
    obtain ⟨Ha, hHa⟩ : ∃ G, G = bs (lvShow e.hi) := ⟨_, rfl⟩
    have HT : Hid (Ga ++ ⟨#[32, 102, 114, 111, 109, 32]⟩ ++ La ++ ⟨#[32, 116, 111, 32]⟩ ++ Ha = bs (efT0 e)) := by
      show _ = _
      refine bs_eq ?_
      rw [app_list, app_list, app_list, app_list, hGa, hLa, hHa, bs_list, bs_list, bs_list]
      unfold efT0
      rw [HG.out]; rfl
    rw [← hGa] at hA8
    have HGa := Lib.hid hGa
    rw [← hLa] at hL10 HS1
    rw [← hHa] at hH10 HS2
    clear hGa hLa hHa
    obtain ⟨R1, q1⟩ := sum_ok (a := Ga) (b := ⟨#[32, 102, 114, 111, 109, 32]⟩) (n := 6) hA8 (Nat.le_refl 6) (by decide)
    obtain ⟨R2, q2⟩ := sum_ok (b := La) q1 hL10 (by decide)
    obtain ⟨R3, q3⟩ := sum_ok (b := ⟨#[32, 116, 111, 32]⟩) (n := 4) q2 (Nat.le_refl 4) (by decide)
    obtain ⟨R4, _⟩ := sum_ok (b := Ha) q3 hH10 (by decide)
    clear q1 q2 q3
    have d0 := c0
    have d1 := c1
    have d2 := c2
    refine wp_region_held_drew (S := (fun w' => w'.cell? ⟨w.heap.size, 0, none⟩ = some (.int .i64 (g : Int)) ∧ w'.cell? ⟨w.heap.size, 1, none⟩ = some (.int .i64 e.lo) ∧ w'.cell? ⟨w.heap.size, 2, none⟩ = some (.int .i64 e.hi))) (by kernel_rfl) ⟨d0, d1, d2⟩ (fun hHeld => ?_)
    refine wpAnyH_take (i := 1) (v := ?_) rfl (by kernel_rfl) (by kernel_rfl) (by kernel_rfl) (fun _ _ _ h => h) (Or.inl ⟨by rfl, ?_⟩) (by assumption) ?_
    rotate_left
    · intro w' hSw; obtain ⟨q0, q1, q2⟩ := hSw; go_simp; (try with_reducible rfl)
    try simp only [Act.put, List.setIfInBounds_toArray]
    refine wpAnyH_take (i := 2) (v := ?_) rfl (by kernel_rfl) (by kernel_rfl) (by kernel_rfl) (fun _ _ _ h => h) (Or.inl ⟨by rfl, ?_⟩) (by assumption) ?_
    rotate_left
    · intro w' hSw; obtain ⟨q0, q1, q2⟩ := hSw; go_simp; (try with_reducible rfl)
    try simp only [Act.put]
    refine wpAnyH_take (i := 6) (v := ?_) rfl (by kernel_rfl) (by kernel_rfl) (by kernel_rfl) (fun _ _ _ h => h) (Or.inl ⟨by rfl, ?_⟩) (by assumption) ?_
    rotate_left
    · intro w' hSw; obtain ⟨q0, q1, q2⟩ := hSw; go_simp; (try with_reducible rfl)
    try simp only [Act.put]
    refine wpAnyH_take (i := 7) (v := ?_) rfl (by kernel_rfl) (by kernel_rfl) (by kernel_rfl) (fun _ _ _ h => h) (Or.inl ⟨by rfl, ?_⟩) (by assumption) ?_
    rotate_left
    · intro w' hSw; obtain ⟨q0, q1, q2⟩ := hSw; go_simp; (try with_reducible rfl)
    try simp only [Act.put]
    refine wpAnyH_take (i := 11) (v := ?_) rfl (by kernel_rfl) (by kernel_rfl) (by kernel_rfl) (fun _ _ _ h => h) (Or.inl ⟨by rfl, ?_⟩) (by assumption) ?_
    rotate_left
    · intro w' hSw; obtain ⟨q0, q1, q2⟩ := hSw; go_simp; (try with_reducible rfl)
    try simp only [Act.put]
    refine wpAnyH_take (i := 12) (v := ?_) rfl (by kernel_rfl) (by kernel_rfl) (by kernel_rfl) (fun _ _ _ h => h) (Or.inl ⟨by rfl, ?_⟩) (by assumption) ?_
    rotate_left
    · intro w' hSw; obtain ⟨q0, q1, q2⟩ := hSw; go_simp; (try with_reducible rfl)
    try simp only [Act.put]
    refine wpAnyH_ready (rs := [0]) (by kernel_rfl) (by simp) ?_
    refine AllReadyH.cons rfl (fun K hK => ?_) AllReadyH.nil
    go_simp
    refine (wordsR_any _).mono ?_
    rintro e' w5 ⟨b5, c5, rfl, m5, hc5⟩
    have hcell : w5.cell? ⟨b5, g, none⟩ = some (.string Ga) := by rw [HGa.out]; exact hc5 g hg7
    have B5 : Bl w1 w5 := by ((repeat (first | with_reducible exact Bl.refl _ | with_reducible assumption | with_reducible refine Bl.drew ?_ | with_reducible refine Bl.alloc ?_ _ | with_reducible refine Bl.trans ?_ (by assumption))); done)
    refine hK.out _ _ ⟨B5.cell d0, B5.cell d1, B5.cell d2⟩ (fun hHeld2 => ?_)
    clear hK K hc5 hHeld
    try simp only [Act.put, List.setIfInBounds_toArray]
    refine wpAnyH_switch (S2 := (fun w' => w'.cell? ⟨b5, g, none⟩ = some (.string Ga) ∧ (w'.cell? ⟨w.heap.size, 0, none⟩ = some (.int .i64 (g : Int)) ∧ w'.cell? ⟨w.heap.size, 1, none⟩ = some (.int .i64 e.lo) ∧ w'.cell? ⟨w.heap.size, 2, none⟩ = some (.int .i64 e.hi)))) (fun w h => h.2) _ _ _ _ ?_
    have hHeld3 : (fun w' => w'.cell? ⟨b5, g, none⟩ = some (.string Ga) ∧ (w'.cell? ⟨w.heap.size, 0, none⟩ = some (.int .i64 (g : Int)) ∧ w'.cell? ⟨w.heap.size, 1, none⟩ = some (.int .i64 e.lo) ∧ w'.cell? ⟨w.heap.size, 2, none⟩ = some (.int .i64 e.hi))) w5 := ⟨hcell, hHeld2⟩
    refine wpAnyH_take (i := 3) (v := ?_) rfl (by kernel_rfl) (by kernel_rfl) (by kernel_rfl) (fun _ _ _ h => h) (Or.inl ⟨by rfl, ?_⟩) (by assumption) ?_
    rotate_left
    · intro w' hSw; obtain ⟨qc, q0, q1, q2⟩ := hSw; go_simp; (try with_reducible rfl)
    try simp only [Act.put]
    refine wpAnyH_take (i := 4) (v := ?_) rfl (by kernel_rfl) (by kernel_rfl) (by kernel_rfl) (fun _ _ _ h => h) (Or.inl ⟨by rfl, ?_⟩) (by assumption) ?_
    rotate_left
    · intro w' hSw; obtain ⟨qc, q0, q1, q2⟩ := hSw; go_simp; (try with_reducible rfl)
    try simp only [Act.put]
    refine wpAnyH_take (i := 5) (v := ?_) rfl (by kernel_rfl) (by kernel_rfl) (by kernel_rfl) (fun _ _ _ h => h) (Or.inl ⟨by rfl, ?_⟩) (by assumption) ?_
    rotate_left
    · intro w' hSw; obtain ⟨qc, q0, q1, q2⟩ := hSw; go_simp; (try with_reducible rfl)
    try simp only [Act.put, List.setIfInBounds_toArray]
    refine wpAnyH_ready (rs := [8]) (by kernel_rfl) (by simp) ?_
    refine AllReadyH.cons rfl (fun K hK => ?_) AllReadyH.nil
    go_simp
    refine (HS1.out _ B5).mono ?_
    rintro e' w6 ⟨rfl, m6⟩
    have b6 : Bl w1 w6 := B5.trans m6
    refine hK.out _ _ ⟨m6.cell hcell, b6.cell d0, b6.cell d1, b6.cell d2⟩ (fun hHeld4 => ?_)
    clear hK K hHeld2 hHeld3
    try simp only [Act.put]
    refine wpAnyH_take (i := 9) (v := ?_) rfl (by kernel_rfl) (by kernel_rfl) (by kernel_rfl) (fun _ _ _ h => h) (Or.inl ⟨by rfl, ?_⟩) (by assumption) ?_
    rotate_left
    · intro w' hSw; obtain ⟨qc, q0, q1, q2⟩ := hSw; go_simp; (try with_reducible rfl)
    try simp only [Act.put, List.setIfInBounds_toArray]
    refine wpAnyH_take (i := 10) (v := ?_) rfl (by kernel_rfl) (by kernel_rfl) (by kernel_rfl) (fun _ _ _ h => h) (Or.inl ⟨by rfl, ?_⟩) (by assumption) ?_
    rotate_left
    · intro w' hSw; obtain ⟨qc, q0, q1, q2⟩ := hSw; go_simp; (try with_reducible rfl)
    try simp only [Act.put]
    refine wpAnyH_ready (rs := [13]) (by kernel_rfl) (by simp) ?_
    refine AllReadyH.cons rfl (fun K hK => ?_) AllReadyH.nil
    go_simp
    refine (HS2.out _ b6).mono ?_
    rintro e' w7 ⟨rfl, m7⟩
    have b7 : Bl w1 w7 := b6.trans m7
    refine hK.out _ _ ⟨m7.cell (m6.cell hcell), b7.cell d0, b7.cell d1, b7.cell d2⟩ (fun hHeld5 => ?_)
    clear hK K hHeld4 hcell
    try simp only [Act.put]
    refine wpAnyH_take (i := 14) (oi := ⟨some 27, _, _, _, _, _⟩) (v := ?_) rfl (by kernel_rfl) (by kernel_rfl) (by kernel_rfl) (fun _ _ _ h => h) (Or.inl ⟨by rfl, ?_⟩) (by assumption) ?_
    rotate_left
    · intro w' hSw; obtain ⟨qc, q0, q1, q2⟩ := hSw; go_simp; (try with_reducible rfl)
    try simp only [Act.put]
    refine wpAnyH_take (i := 15) (oi := ⟨some 5, _, _, _, _, _⟩) (v := ?_) rfl (by kernel_rfl) (by kernel_rfl) (by kernel_rfl) (fun _ _ _ h => h) (Or.inl ⟨by rfl, ?_⟩) (by assumption) ?_
    rotate_left
    · intro w' hSw; obtain ⟨qc, q0, q1, q2⟩ := hSw; go_simp; (try with_reducible rfl)
    try simp only [Act.put]
    refine wpAnyH_done (by kernel_rfl) ?_ _
    go_wp2_with fail
    go_meet
    exact ⟨by rw [HT.out], B1.out.trans b7⟩
  case rest =>
    clear c0 c1 c2 c3 c4 c5 c6 c7 c8
    obtain ⟨rfl, B2⟩ := hcut
    have hz : (bs (efT0 e)).size ≤ 40 := by rw [bs_size]; exact ZZ.out.1.1.1
    obtain ⟨P, hP⟩ : ∃ P, P = bs (efT0 e) := ⟨_, rfl⟩
    rw [← hP] at hz ⊢
    have HPp := Lib.hid hP
    clear hP
    obtain ⟨c0, c1, c2, c3, c4, c5, c6, c7, c8⟩ := HA.out.bl B2.out
    have t7 := HCc.out
    go_upto_if 30 with fail
    go_cut [5] (fun s5 wx => TxR W (efT1 e) s5 wx)
    case first =>
      cases cy with
      | true =>
        have hb : efCyc e = [32, 99, 121, 99, 108, 101, 32] ++ Lib.itoa e.cyc := by unfold efCyc; rw [if_neg (by have := Hcy.out; simpa using this)]
        have hbd : -9999999 ≤ e.cyc ∧ e.cyc ≤ 9999999 := by have := HCy.out (by have := Hcy.out; simpa using this); omega
        have HI := Lib.hid (fun w' (m : Bl W w') => itoa_z e.cyc w' (by omega) (by omega) (HPW.out w' m))
        have hD : (bs (Lib.itoa e.cyc)).size ≤ 8 := by rw [bs_size]; exact itoa_l8 hbd.1 hbd.2
        obtain ⟨D, hDD⟩ : ∃ D, D = bs (Lib.itoa e.cyc) := ⟨_, rfl⟩
        rw [← hDD] at hD HI
        obtain ⟨R1, q1⟩ := sum_ok (a := ⟨#[32, 99, 121, 99, 108, 101, 32]⟩) (m := 7) (b := D) (Nat.le_refl 7) hD (by decide)
        obtain ⟨R2, _⟩ := sum_ok hz q1 (by decide)
        have HT : Hid (P ++ (⟨#[32, 99, 121, 99, 108, 101, 32]⟩ ++ D) = bs (efT1 e)) := by show _ = _; unfold efT1; rw [hb]; exact bs_cat HPp.out (bs_cat rfl hDD)
        clear hDD q1 hb hbd
        go_wp2_with (first | (go_at_call 15; (with_reducible refine (HI.out _ (B2.out)).mono ?_); rintro r w9 ⟨rfl, m9⟩; have B9 := Lib.hid (B2.out.trans m9); clear m9))
        go_meet
        exact ⟨by rw [HT.out], B9.out⟩
      | false =>
        have hb : efCyc e = [] := by unfold efCyc; rw [if_pos (by have := Hcy.out; simpa using this)]
        have HT : Hid (P = bs (efT1 e)) := by show _ = _; unfold efT1; rw [hb, List.append_nil]; exact HPp.out
        clear hb
        go_wp2_with fail
        go_meet
        exact ⟨by rw [HT.out], B2.out⟩
    case rest =>
      clear HPp hz c0 c1 c2 c3 c4 c5 c6 c7 c8 B2
      obtain ⟨rfl, B2⟩ := hcut
      have hz : (bs (efT1 e)).size ≤ 60 := by rw [bs_size]; exact ZZ.out.1.1.2
      obtain ⟨P, hP⟩ : ∃ P, P = bs (efT1 e) := ⟨_, rfl⟩
      rw [← hP] at hz ⊢
      have HPp := Lib.hid hP
      clear hP
      obtain ⟨c0, c1, c2, c3, c4, c5, c6, c7, c8⟩ := HA.out.bl B2.out
      have t4 := HWd.out
      go_upto_if 39 with fail
      go_cut [5] (fun s5 wx => TxR W (efT2 e) s5 wx)
      case first =>
        cases wd with
        | true =>
          have hb : efWid e = [32, 119, 105, 100, 116, 104, 32] ++ Lib.itoa e.wid := by unfold efWid; rw [if_pos (by have := Hwd.out; simpa using this)]
          have hbd : -9999999 ≤ e.wid ∧ e.wid ≤ 9999999 := by omega
          have HI := Lib.hid (fun w' (m : Bl W w') => itoa_z e.wid w' (by omega) (by omega) (HPW.out w' m))
          have hD : (bs (Lib.itoa e.wid)).size ≤ 8 := by rw [bs_size]; exact itoa_l8 hbd.1 hbd.2
          obtain ⟨D, hDD⟩ : ∃ D, D = bs (Lib.itoa e.wid) := ⟨_, rfl⟩
          rw [← hDD] at hD HI
          obtain ⟨R1, q1⟩ := sum_ok (a := ⟨#[32, 119, 105, 100, 116, 104, 32]⟩) (m := 7) (b := D) (Nat.le_refl 7) hD (by decide)
          obtain ⟨R2, _⟩ := sum_ok hz q1 (by decide)
          have HT : Hid (P ++ (⟨#[32, 119, 105, 100, 116, 104, 32]⟩ ++ D) = bs (efT2 e)) := by show _ = _; unfold efT2; rw [hb]; exact bs_cat HPp.out (bs_cat rfl hDD)
          clear hDD q1 hb hbd
          go_wp2_with (first | (go_at_call 15; (with_reducible refine (HI.out _ (B2.out)).mono ?_); rintro r w9 ⟨rfl, m9⟩; have B9 := Lib.hid (B2.out.trans m9); clear m9))
          go_meet
          exact ⟨by rw [HT.out], B9.out⟩
        | false =>
          have hb : efWid e = [] := by unfold efWid; rw [if_neg (by have := Hwd.out; simpa using this)]
          have HT : Hid (P = bs (efT2 e)) := by show _ = _; unfold efT2; rw [hb, List.append_nil]; exact HPp.out
          clear hb
          go_wp2_with fail
          go_meet
          exact ⟨by rw [HT.out], B2.out⟩
      case rest =>
        clear HPp hz c0 c1 c2 c3 c4 c5 c6 c7 c8 B2
        obtain ⟨rfl, B2⟩ := hcut
        have hz : (bs (efT2 e)).size ≤ 80 := by rw [bs_size]; exact ZZ.out.1.2.1
        obtain ⟨P, hP⟩ : ∃ P, P = bs (efT2 e) := ⟨_, rfl⟩
        rw [← hP] at hz ⊢
        have HPp := Lib.hid hP
        clear hP
        obtain ⟨c0, c1, c2, c3, c4, c5, c6, c7, c8⟩ := HA.out.bl B2.out
        obtain ⟨sp, hsp⟩ : ∃ sp, (e.spr != 0) = sp := ⟨_, rfl⟩
        go_upto_if 48 with fail
        go_cut [5] (fun s5 wx => TxR W (efT3 e) s5 wx)
        case first =>
          cases sp with
          | true =>
            have hb : efSpr e = [32, 115, 112, 114, 101, 97, 100, 32] ++ Lib.itoa e.spr := by unfold efSpr; rw [if_neg (by simpa using hsp)]
            have hbd : -9999999 ≤ e.spr ∧ e.spr ≤ 9999999 := by omega
            have HI := Lib.hid (fun w' (m : Bl W w') => itoa_z e.spr w' (by omega) (by omega) (HPW.out w' m))
            have hD : (bs (Lib.itoa e.spr)).size ≤ 8 := by rw [bs_size]; exact itoa_l8 hbd.1 hbd.2
            obtain ⟨D, hDD⟩ : ∃ D, D = bs (Lib.itoa e.spr) := ⟨_, rfl⟩
            rw [← hDD] at hD HI
            obtain ⟨R1, q1⟩ := sum_ok (a := ⟨#[32, 115, 112, 114, 101, 97, 100, 32]⟩) (m := 8) (b := D) (Nat.le_refl 8) hD (by decide)
            obtain ⟨R2, _⟩ := sum_ok hz q1 (by decide)
            have HT : Hid (P ++ (⟨#[32, 115, 112, 114, 101, 97, 100, 32]⟩ ++ D) = bs (efT3 e)) := by show _ = _; unfold efT3; rw [hb]; exact bs_cat HPp.out (bs_cat rfl hDD)
            clear hDD q1 hb hbd
            go_wp2_with (first | (go_at_call 15; (with_reducible refine (HI.out _ (B2.out)).mono ?_); rintro r w9 ⟨rfl, m9⟩; have B9 := Lib.hid (B2.out.trans m9); clear m9))
            go_meet
            exact ⟨by rw [HT.out], B9.out⟩
          | false =>
            have hb : efSpr e = [] := by unfold efSpr; rw [if_pos (by simpa using hsp)]
            have HT : Hid (P = bs (efT3 e)) := by show _ = _; unfold efT3; rw [hb, List.append_nil]; exact HPp.out
            clear hb
            go_wp2_with fail
            go_meet
            exact ⟨by rw [HT.out], B2.out⟩
        case rest =>
          clear HPp hz c0 c1 c2 c3 c4 c5 c6 c7 c8 B2 hsp
          obtain ⟨rfl, B2⟩ := hcut
          have hz : (bs (efT3 e)).size ≤ 100 := by rw [bs_size]; exact ZZ.out.1.2.2
          obtain ⟨P, hP⟩ : ∃ P, P = bs (efT3 e) := ⟨_, rfl⟩
          rw [← hP] at hz ⊢
          have HPp := Lib.hid hP
          clear hP
          obtain ⟨c0, c1, c2, c3, c4, c5, c6, c7, c8⟩ := HA.out.bl B2.out
          obtain ⟨bk, hbk⟩ : ∃ b, e.bk = b := ⟨_, rfl⟩
          rw [hbk] at c6
          have Hbk := Lib.hid hbk
          clear hbk
          go_upto_if 56 with fail
          go_cut [5] (fun s5 wx => TxR W (efT4 e) s5 wx)
          case first =>
            cases bk with
            | true =>
              have hb : efBk e = [32, 98, 97, 99, 107] := by unfold efBk; rw [if_pos Hbk.out]
              obtain ⟨R2, _⟩ := sum_ok hz (b := ⟨#[32, 98, 97, 99, 107]⟩) (n := 5) (Nat.le_refl 5) (by decide)
              have HT : Hid (P ++ ⟨#[32, 98, 97, 99, 107]⟩ = bs (efT4 e)) := by show _ = _; unfold efT4; rw [hb]; exact bs_cat HPp.out rfl
              clear hb
              go_wp2_with fail
              go_meet
              exact ⟨by rw [HT.out], B2.out⟩
            | false =>
              have hb : efBk e = [] := by unfold efBk; rw [if_neg (by rw [Hbk.out]; decide)]
              have HT : Hid (P = bs (efT4 e)) := by show _ = _; unfold efT4; rw [hb, List.append_nil]; exact HPp.out
              clear hb
              go_wp2_with fail
              go_meet
              exact ⟨by rw [HT.out], B2.out⟩
          case rest =>
            clear HPp hz c0 c1 c2 c3 c4 c5 c6 c7 c8 B2 Hbk
            obtain ⟨rfl, B2⟩ := hcut
            have hz : (bs (efT4 e)).size ≤ 110 := by rw [bs_size]; exact ZZ.out.2.1.1
            obtain ⟨P, hP⟩ : ∃ P, P = bs (efT4 e) := ⟨_, rfl⟩
            rw [← hP] at hz ⊢
            have HPp := Lib.hid hP
            clear hP
            obtain ⟨c0, c1, c2, c3, c4, c5, c6, c7, c8⟩ := HA.out.bl B2.out
            obtain ⟨rl, hrl⟩ : ∃ b, e.rl = b := ⟨_, rfl⟩
            rw [hrl] at c7
            have Hrl := Lib.hid hrl
            clear hrl
            go_upto_if 60 with fail
            go_cut [5] (fun s5 wx => TxR W (efT5 e) s5 wx)
            case first =>
              cases rl with
              | true =>
                have hb : efRl e = [32, 114, 101, 108, 97, 116, 105, 118, 101] := by unfold efRl; rw [if_pos Hrl.out]
                obtain ⟨R2, _⟩ := sum_ok hz (b := ⟨#[32, 114, 101, 108, 97, 116, 105, 118, 101]⟩) (n := 9) (Nat.le_refl 9) (by decide)
                have HT : Hid (P ++ ⟨#[32, 114, 101, 108, 97, 116, 105, 118, 101]⟩ = bs (efT5 e)) := by show _ = _; unfold efT5; rw [hb]; exact bs_cat HPp.out rfl
                clear hb
                go_wp2_with fail
                go_meet
                exact ⟨by rw [HT.out], B2.out⟩
              | false =>
                have hb : efRl e = [] := by unfold efRl; rw [if_neg (by rw [Hrl.out]; decide)]
                have HT : Hid (P = bs (efT5 e)) := by show _ = _; unfold efT5; rw [hb, List.append_nil]; exact HPp.out
                clear hb
                go_wp2_with fail
                go_meet
                exact ⟨by rw [HT.out], B2.out⟩
            case rest =>
              clear HPp hz c0 c1 c2 c3 c4 c5 c6 c7 c8 B2 Hrl
              obtain ⟨rfl, B2⟩ := hcut
              obtain ⟨c0, c1, c2, c3, c4, c5, c6, c7, c8⟩ := HA.out.bl B2.out
              go_wp2_with fail
              go_loopw [5, 66] (fun vs vi wr => ∃ k : Nat, k ≤ e.st.length ∧ vi = .int .i64 k ∧ vs = .string (bs (efT5 e ++ (e.st.take k).flatMap efStp)) ∧ Hid (Bl W wr)) (fun _ vi _ => e.st.length - (intOf vi).toNat)
              case atStart => exact ⟨0, Nat.zero_le _, rfl, by rw [List.take_zero, List.flatMap_nil, List.append_nil], B2.out⟩
              case round =>
                obtain ⟨k, hk, rfl, rfl, HB⟩ := hrel
                rename World => wr
                clear c0 c1 c2 c3 c4 c5 c6 c7 c8
                by_cases hlt : k < e.st.length
                · obtain ⟨b, off, rfl, hL⟩ := HP.out (by omega)
                  obtain ⟨c0, c1, c2⟩ := (hL.bl (bW.trans HB.out)) k hlt
                  have hok := stpOk_iff.1 (HAll.out _ (List.getElem_mem hlt))
                  have hti := Lib.hid (flat_take efStp e.st k hlt)
                  have hlen : (bs (efT5 e ++ (e.st.take k).flatMap efStp)).size ≤ 1700 := by
                    have h1 := flat_len efStp 30 (e.st.take k) (fun x hx => efStp_len (HAll.out x (List.mem_of_mem_take hx)))
                    have h2 := ZZ.out.2.1.2
                    have h3 : (e.st.take k).length ≤ 50 := by have := List.length_take_le k e.st; omega
                    rw [bs_size, List.length_append]; omega
                  have k1 : (k : Int) < (e.st.length : Int) := by omega
                  generalize e.st[k] = x at *
                  clear hL
                  obtain ⟨⟨x1, x2⟩, x3, x4, x5, x6⟩ := hok
                  have hA10 : (bs (lvShow x.lv)).size ≤ 10 := by rw [bs_size]; exact lvShow_l10 x1 x2
                  have hC8 : (bs (Lib.itoa x.ho)).size ≤ 8 := by rw [bs_size]; exact itoa_l8 (by omega) (by omega)
                  have hD8 : (bs (Lib.itoa x.fa)).size ≤ 8 := by rw [bs_size]; exact itoa_l8 (by omega) (by omega)
                  have HS1 := Lib.hid (fun w' (m : Bl w w') => showR_ef x.lv w' x1 x2 (HPw.out w' m))
                  have HI1 := Lib.hid (fun w' (m : Bl w w') => itoa_z x.ho w' (by omega) (by omega) (HPw.out w' m))
                  have HI2 := Lib.hid (fun w' (m : Bl w w') => itoa_z x.fa w' (by omega) (by omega) (HPw.out w' m))
                  obtain ⟨A, hA⟩ : ∃ D, D = bs (lvShow x.lv) := ⟨_, rfl⟩
                  obtain ⟨C, hC⟩ : ∃ D, D = bs (Lib.itoa x.ho) := ⟨_, rfl⟩
                  obtain ⟨D, hD⟩ : ∃ D, D = bs (Lib.itoa x.fa) := ⟨_, rfl⟩
                  rw [← hA] at hA10 HS1
                  rw [← hC] at hC8 HI1
                  rw [← hD] at hD8 HI2
                  obtain ⟨Q1, y1⟩ := sum_ok (a := ⟨#[32]⟩) (m := 1) (b := A) (Nat.le_refl 1) hA10 (by decide)
                  obtain ⟨Q2, y2⟩ := sum_ok (b := ⟨#[58]⟩) (n := 1) y1 (Nat.le_refl 1) (by decide)
                  obtain ⟨Q3, y3⟩ := sum_ok (b := C) y2 hC8 (by decide)
                  obtain ⟨Q4, y4⟩ := sum_ok (b := ⟨#[58]⟩) (n := 1) y3 (Nat.le_refl 1) (by decide)
                  obtain ⟨Q5, y5⟩ := sum_ok (b := D) y4 hD8 (by decide)
                  have hfin : Hid (bs (efT5 e ++ (e.st.take k).flatMap efStp) ++ (⟨#[32]⟩ ++ A ++ ⟨#[58]⟩ ++ C ++ ⟨#[58]⟩ ++ D) = bs (efT5 e ++ (e.st.take (k + 1)).flatMap efStp)) := by
                    have h1 : (⟨#[32]⟩ ++ A ++ ⟨#[58]⟩ ++ C ++ ⟨#[58]⟩ ++ D : ByteArray).data.toList = efStp x := by
                      rw [app_list, app_list, app_list, app_list, app_list, hA, hC, hD, bs_list, bs_list, bs_list]; rfl
                    show _ = _
                    refine bs_eq ?_
                    rw [app_list, bs_list, h1, hti.out]
                    exact List.append_assoc _ _ _
                  obtain ⟨ST, hST⟩ : ∃ ST, ST = bs (efT5 e ++ (e.st.take k).flatMap efStp) := ⟨_, rfl⟩
                  rw [← hST] at hlen hfin
                  rw [← hST]
                  obtain ⟨Q6, _⟩ := sum_ok hlen y5 (by decide)
                  clear hST hA hC hD hti y1 y2 y3 y4 y5
                  obtain ⟨Wy, hWy⟩ : ∃ Wy, wr.alloc (.cells #[.int .i64 x.lv, .int .i64 x.ho, .int .i64 x.fa] 38) = Wy := ⟨_, rfl⟩
                  have by0 : Bl wr Wy := by rw [← hWy]; exact (Bl.refl wr).alloc _
                  have hY : CelS Wy wr.heap.size 0 x := by rw [← hWy]; exact ⟨by simp, by simp, by simp⟩
                  have BY := Lib.hid (bW.trans (HB.out.trans by0))
                  have BYW := Lib.hid (HB.out.trans by0)
                  obtain ⟨e0, e1, e2⟩ := hY
                  have d0 := e0
                  have d1 := e1
                  have d2 := e2
                  simp only [Nat.zero_add] at e1 e2 d1 d2
                  clear by0
                  go_upto_region 18 with fail
                  try rw [hWy]
                  clear hWy
                  go_region_held3 (fun w' => w'.cell? ⟨wr.heap.size, 0, none⟩ = some (.int .i64 x.lv) ∧ w'.cell? ⟨wr.heap.size, 1, none⟩ = some (.int .i64 x.ho) ∧ w'.cell? ⟨wr.heap.size, 2, none⟩ = some (.int .i64 x.fa))
                    (refine ⟨Bl.cell (w := Wy) ?_ d0, Bl.cell (w := Wy) ?_ d1, Bl.cell (w := Wy) ?_ d2⟩ <;> ((repeat (first | with_reducible exact Bl.refl _ | with_reducible assumption | with_reducible refine Bl.drew ?_ | with_reducible refine Bl.alloc ?_ _ | with_reducible refine Bl.trans ?_ (by assumption))); done))
                    (first
                      | (go_at_call 19; (with_reducible refine (HS1.out _ (BY.out.trans (by ((repeat (first | with_reducible exact Bl.refl _ | with_reducible assumption | with_reducible refine Bl.drew ?_ | with_reducible refine Bl.alloc ?_ _ | with_reducible refine Bl.trans ?_ (by assumption))); done)))).mono ?_); rintro e' w6 ⟨rfl, m6⟩)
                      | (go_at_call 15; (with_reducible refine (HI1.out _ (BY.out.trans (by ((repeat (first | with_reducible exact Bl.refl _ | with_reducible assumption | with_reducible refine Bl.drew ?_ | with_reducible refine Bl.alloc ?_ _ | with_reducible refine Bl.trans ?_ (by assumption))); done)))).mono ?_); rintro e' w7 ⟨rfl, m7⟩)
                      | (go_at_call 15; (with_reducible refine (HI2.out _ (BY.out.trans (by ((repeat (first | with_reducible exact Bl.refl _ | with_reducible assumption | with_reducible refine Bl.drew ?_ | with_reducible refine Bl.alloc ?_ _ | with_reducible refine Bl.trans ?_ (by assumption))); done)))).mono ?_); rintro e' w7' ⟨rfl, m7'⟩))
                  all_goals
                    go_wp2_with fail
                    go_roundw
                    case rel => exact ⟨k + 1, by omega, by go_num, by rw [hfin.out], BYW.out.trans (by ((repeat (first | with_reducible exact Bl.refl _ | with_reducible assumption | with_reducible refine Bl.drew ?_ | with_reducible refine Bl.alloc ?_ _ | with_reducible refine Bl.trans ?_ (by assumption))); done))⟩
                    case measure => simp [intOf]; omega
                · have hkl : k = e.st.length := by omega
                  have htk : bs (efT5 e ++ (e.st.take k).flatMap efStp) = bs (efTxt e) := by rw [List.take_of_length_le (by omega)]; rfl
                  have hlen : (bs (efTxt e)).size ≤ 4000 := by have := ZZ.out.2.2; rw [bs_size]; omega
                  have k1 : ¬ (k : Int) < (e.st.length : Int) := by omega
                  rw [htk]
                  obtain ⟨T, hT⟩ : ∃ T, T = bs (efTxt e) := ⟨_, rfl⟩
                  rw [← hT] at hlen ⊢
                  have hlen' : (T.size : Int) ≤ 4000 := by omega
                  have HTT := Lib.hid hT
                  clear hkl htk hlen hT
                  go_wp2_with fail
                  go_ret2
                  exact ⟨by rw [← HTT.out]; rfl, bW.trans HB.out⟩
end Go.Proofs.YtkllhockcnokeaaDoor
