/- show of the program: the text of a selection. -/
import Derived.Test.YtgpblgalklegkaaDoorShoB
import Derived.Deep.RegionHeld3
namespace Go.Proofs.YtgpblgalklegkaaDoor
open Go.RowKit Go.Lib Go.Sort

theorem numT_inj {a b : Int} (ha : 0 ≤ a) (hb : 0 ≤ b) (h : numT a = numT b) : a = b := by
  unfold numT at h
  have h2 := congrArg val h
  rw [dd_val, dd_val] at h2
  omega
theorem bs_eqT (a b : List UInt8) : ((bs a).toList == (bs b).toList) = decide (a = b) := by
  rw [Lib.toList_data, Lib.toList_data, bs_list, bs_list]
  by_cases h : a = b <;> simp [h]

set_option maxRecDepth 100000 in
set_option maxHeartbeats 6400000 in
theorem show_1 (d : Nat) (_ : ShowOk d) (p : Pk) (sv : Value) (w : World) (hk : p.kind = 1) (hg : Good (d + 1) p) (hsv : PkV w sv p.args) (hpw : PowAt w) (_ : KwAt w) :
    Calls Tryd.prog 29 #[.agg #[.int .i64 1, .int .i64 p.frm, .int .i64 p.to, sv]] w fun e w' => e = .returned (.string (bs (txt (d + 1) p))) ∧ Bl w w' := by
  obtain ⟨o, cap, rfl, hm⟩ := hsv.form
  obtain ⟨_, ⟨f0, f1⟩, ⟨t0, t1⟩, hn4, _, _, _⟩ := ck1_ok hg.own
  obtain ⟨W, hW⟩ : ∃ W, W = w.alloc (.cells #[.int .i64 1, .int .i64 p.frm, .int .i64 p.to, .slice o p.args.length cap] 24) := ⟨_, rfl⟩
  have bW : Bl w W := by rw [hW]; exact (Bl.refl w).alloc _
  have KK := Lib.hid (fun w' (m : Bl W w') => show w'.cell? ⟨w.heap.size, 0, none⟩ = some (.int .i64 1) ∧ w'.cell? ⟨w.heap.size, 1, none⟩ = some (.int .i64 p.frm) ∧ w'.cell? ⟨w.heap.size, 2, none⟩ = some (.int .i64 p.to) ∧ w'.cell? ⟨w.heap.size, 3, none⟩ = some (.slice o p.args.length cap) from ⟨m.cell (by rw [hW]; simp), m.cell (by rw [hW]; simp), m.cell (by rw [hW]; simp), m.cell (by rw [hW]; simp)⟩)
  have HP := Lib.hid (hpw.bl bW)
  have HI := Lib.hid (fun n w' (h0 : 0 ≤ n) (h1 : n ≤ 9999) (m : Bl W w') => (itoa_any n w' h0 (by omega) (PowAt.bl HP.out m)).mono fun e w'' (h : _ ∧ Gr w' w'') => (⟨h.1, h.2.bl⟩ : e = .returned (.string (bs (numT n))) ∧ Bl w' w''))
  have HI1 := Lib.hid (fun w' (m : Bl W w') => HI.out p.frm w' f0 f1 m)
  have HI2 := Lib.hid (fun w' (m : Bl W w') => HI.out p.to w' t0 t1 m)
  obtain ⟨k0, k1, k2, k3⟩ := KK.out _ (Bl.refl _)
  have cw1 := k1
  have cw2 := k2
  have s1 : (bs (numT p.frm)).size ≤ 4 := by rw [bs_size]; exact numT_len f1
  have s2 : (bs (numT p.to)).size ≤ 4 := by rw [bs_size]; exact numT_len t1
  have R1 : ∀ w, (Op.stringOp .add (bs (numT p.frm)) ⟨#[32, 116, 104, 114, 117, 32]⟩).run Tryd.prog w = .ok (.string ((bs (numT p.frm)) ++ ⟨#[32, 116, 104, 114, 117, 32]⟩)) w := fun w => run_string_add_sum w _ _ (by show _ + 6 ≤ _; omega)
  have R2 : ∀ w, (Op.stringOp .add ((bs (numT p.frm)) ++ ⟨#[32, 116, 104, 114, 117, 32]⟩) (bs (numT p.to))).run Tryd.prog w = .ok (.string (((bs (numT p.frm)) ++ ⟨#[32, 116, 104, 114, 117, 32]⟩) ++ (bs (numT p.to)))) w := fun w => run_string_add_sum w _ _ (by rw [ByteArray.size_append]; show _ + 6 + _ ≤ _; omega)
  have hq := bs_eqT (numT p.frm) (numT p.to)
  by_cases hft : p.frm = p.to
  · have e : Hid (bs (txt (d + 1) p) = bs (numT p.frm)) := by
      show _ = _
      rw [txt, if_pos hk, if_pos hft]
    have q1 : ((bs (numT p.frm)).toList == (bs (numT p.to)).toList) = true := by rw [hq, hft]; simp
    clear hq hft R1 R2
    clear hg hsv hpw hk hn4
    obtain ⟨X, hX⟩ : ∃ X, bs (txt (d + 1) p) = X := ⟨_, rfl⟩
    rw [hX] at e ⊢
    generalize p.frm = f at *
    generalize p.to = t at *
    clear hX
    go_enter Tryd.func29, Tryd.ntmps29
    go_wp2_with fail
    rw [← hW]
    clear hW
    go_region_held3 (fun w' => w'.cell? ⟨w.heap.size, 1, none⟩ = some (.int .i64 f) ∧ w'.cell? ⟨w.heap.size, 2, none⟩ = some (.int .i64 t))
      (refine ⟨Bl.cell (w := W) ?_ cw1, Bl.cell (w := W) ?_ cw2⟩ <;> ((repeat (first | with_reducible exact Bl.refl _ | with_reducible assumption | with_reducible refine Bl.drew ?_ | with_reducible refine Bl.alloc ?_ _ | with_reducible refine Bl.trans ?_ (by assumption))); done))
      (first
        | (go_at_call 68; (with_reducible refine (HI1.out _ (by ((repeat (first | with_reducible exact Bl.refl _ | with_reducible assumption | with_reducible refine Bl.drew ?_ | with_reducible refine Bl.alloc ?_ _ | with_reducible refine Bl.trans ?_ (by assumption))); done))).mono ?_); rintro e' w6 ⟨rfl, m6⟩)
        | (go_at_call 68; (with_reducible refine (HI2.out _ (by ((repeat (first | with_reducible exact Bl.refl _ | with_reducible assumption | with_reducible refine Bl.drew ?_ | with_reducible refine Bl.alloc ?_ _ | with_reducible refine Bl.trans ?_ (by assumption))); done))).mono ?_); rintro e' w7 ⟨rfl, m7⟩))
    have hb7 : Bl W w7 := by ((repeat (first | with_reducible exact Bl.refl _ | with_reducible assumption | with_reducible refine Bl.drew ?_ | with_reducible refine Bl.alloc ?_ _ | with_reducible refine Bl.trans ?_ (by assumption))); done)
    clear k0 k1 k2 k3
    obtain ⟨k0, k1, k2, k3⟩ := KK.out _ hb7
    have HB7 := Lib.hid hb7
    go_wp2_with fail
    go_returns
    exact ⟨by rw [e.out]; rfl, bW.trans HB7.out⟩
  · have e : Hid (bs (txt (d + 1) p) = bs (numT p.frm) ++ ⟨#[32, 116, 104, 114, 117, 32]⟩ ++ bs (numT p.to)) := by
      show _ = _
      rw [txt, if_pos hk, if_neg hft, ← bs_app, ← bs_app]; rfl
    have q1 : ((bs (numT p.frm)).toList == (bs (numT p.to)).toList) = false := by rw [hq, decide_eq_false_iff_not]; exact fun h => hft (numT_inj f0 t0 h)
    clear hq hft
    clear hg hsv hpw hk hn4
    obtain ⟨X, hX⟩ : ∃ X, bs (txt (d + 1) p) = X := ⟨_, rfl⟩
    rw [hX] at e ⊢
    generalize p.frm = f at *
    generalize p.to = t at *
    clear hX
    go_enter Tryd.func29, Tryd.ntmps29
    go_wp2_with fail
    rw [← hW]
    clear hW
    go_region_held3 (fun w' => w'.cell? ⟨w.heap.size, 1, none⟩ = some (.int .i64 f) ∧ w'.cell? ⟨w.heap.size, 2, none⟩ = some (.int .i64 t))
      (refine ⟨Bl.cell (w := W) ?_ cw1, Bl.cell (w := W) ?_ cw2⟩ <;> ((repeat (first | with_reducible exact Bl.refl _ | with_reducible assumption | with_reducible refine Bl.drew ?_ | with_reducible refine Bl.alloc ?_ _ | with_reducible refine Bl.trans ?_ (by assumption))); done))
      (first
        | (go_at_call 68; (with_reducible refine (HI1.out _ (by ((repeat (first | with_reducible exact Bl.refl _ | with_reducible assumption | with_reducible refine Bl.drew ?_ | with_reducible refine Bl.alloc ?_ _ | with_reducible refine Bl.trans ?_ (by assumption))); done))).mono ?_); rintro e' w6 ⟨rfl, m6⟩)
        | (go_at_call 68; (with_reducible refine (HI2.out _ (by ((repeat (first | with_reducible exact Bl.refl _ | with_reducible assumption | with_reducible refine Bl.drew ?_ | with_reducible refine Bl.alloc ?_ _ | with_reducible refine Bl.trans ?_ (by assumption))); done))).mono ?_); rintro e' w7 ⟨rfl, m7⟩))
    have hb7 : Bl W w7 := by ((repeat (first | with_reducible exact Bl.refl _ | with_reducible assumption | with_reducible refine Bl.drew ?_ | with_reducible refine Bl.alloc ?_ _ | with_reducible refine Bl.trans ?_ (by assumption))); done)
    clear k0 k1 k2 k3
    obtain ⟨k0, k1, k2, k3⟩ := KK.out _ hb7
    have HB7 := Lib.hid hb7
    go_wp2_with fail
    go_returns
    exact ⟨by rw [e.out]; rfl, bW.trans HB7.out⟩

set_option maxRecDepth 100000 in
set_option maxHeartbeats 6400000 in
theorem show_2 (d : Nat) (_ : ShowOk d) (p : Pk) (sv : Value) (w : World) (hk : p.kind = 2) (hg : Good (d + 1) p) (hsv : PkV w sv p.args) (hpw : PowAt w) (hkw : KwAt w) :
    Calls Tryd.prog 29 #[.agg #[.int .i64 2, .int .i64 p.frm, .int .i64 p.to, sv]] w fun e w' => e = .returned (.string (bs (txt (d + 1) p))) ∧ Bl w w' := by
  obtain ⟨o, cap, rfl, hm⟩ := hsv.form
  obtain ⟨_, ⟨f0, f1⟩, ⟨t0, t1⟩, hn4, _, _, _⟩ := ck1_ok hg.own
  obtain ⟨W, hW⟩ : ∃ W, W = w.alloc (.cells #[.int .i64 2, .int .i64 p.frm, .int .i64 p.to, .slice o p.args.length cap] 24) := ⟨_, rfl⟩
  have bW : Bl w W := by rw [hW]; exact (Bl.refl w).alloc _
  have KK := Lib.hid (fun w' (m : Bl W w') => show w'.cell? ⟨w.heap.size, 0, none⟩ = some (.int .i64 2) ∧ w'.cell? ⟨w.heap.size, 1, none⟩ = some (.int .i64 p.frm) ∧ w'.cell? ⟨w.heap.size, 2, none⟩ = some (.int .i64 p.to) ∧ w'.cell? ⟨w.heap.size, 3, none⟩ = some (.slice o p.args.length cap) from ⟨m.cell (by rw [hW]; simp), m.cell (by rw [hW]; simp), m.cell (by rw [hW]; simp), m.cell (by rw [hW]; simp)⟩)
  have HP := Lib.hid (hpw.bl bW)
  have HI := Lib.hid (fun n w' (h0 : 0 ≤ n) (h1 : n ≤ 9999) (m : Bl W w') => (itoa_any n w' h0 (by omega) (PowAt.bl HP.out m)).mono fun e w'' (h : _ ∧ Gr w' w'') => (⟨h.1, h.2.bl⟩ : e = .returned (.string (bs (numT n))) ∧ Bl w' w''))
  have HI1 := Lib.hid (fun w' (m : Bl W w') => HI.out p.frm w' f0 f1 m)
  have HI2 := Lib.hid (fun w' (m : Bl W w') => HI.out p.to w' t0 t1 m)
  obtain ⟨k0, k1, k2, k3⟩ := KK.out _ (Bl.refl _)
  have cw1 := k1
  have cw2 := k2
  have s1 : (bs (numT p.frm)).size ≤ 4 := by rw [bs_size]; exact numT_len f1
  have s2 : (bs (numT p.to)).size ≤ 4 := by rw [bs_size]; exact numT_len t1
  have s3 : (bs (kWord 2)).size ≤ 6 := by rw [bs_size]; exact kWord_len _
  have R1 : ∀ w, (Op.stringOp .add (bs (kWord 2)) ⟨#[32]⟩).run Tryd.prog w = .ok (.string ((bs (kWord 2)) ++ ⟨#[32]⟩)) w := fun w => run_string_add_sum w _ _ (by show _ + 1 ≤ _; omega)
  have R2 : ∀ w, (Op.stringOp .add ((bs (kWord 2)) ++ ⟨#[32]⟩) (bs (numT p.frm))).run Tryd.prog w = .ok (.string (((bs (kWord 2)) ++ ⟨#[32]⟩) ++ (bs (numT p.frm)))) w := fun w => run_string_add_sum w _ _ (by rw [ByteArray.size_append]; show _ + 1 + _ ≤ _; omega)
  have HKW := Lib.hid (fun w' (m : Bl W w') => (hkw.bl (bW.trans m)) 2 (by decide))
  have e : Hid (bs (txt (d + 1) p) = bs (kWord 2) ++ ⟨#[32]⟩ ++ bs (numT p.frm)) := by
    show _ = _
    rw [txt, if_neg (by omega), if_pos (by omega), hk, ← bs_app, ← bs_app]; rfl
  clear hg hsv hpw hkw hk hn4
  obtain ⟨X, hX⟩ : ∃ X, bs (txt (d + 1) p) = X := ⟨_, rfl⟩
  rw [hX] at e ⊢
  generalize p.frm = f at *
  generalize p.to = t at *
  clear hX
  go_enter Tryd.func29, Tryd.ntmps29
  go_wp2_with fail
  rw [← hW]
  clear hW
  go_region_held3 (fun w' => w'.cell? ⟨w.heap.size, 1, none⟩ = some (.int .i64 f) ∧ w'.cell? ⟨w.heap.size, 2, none⟩ = some (.int .i64 t))
    (refine ⟨Bl.cell (w := W) ?_ cw1, Bl.cell (w := W) ?_ cw2⟩ <;> ((repeat (first | with_reducible exact Bl.refl _ | with_reducible assumption | with_reducible refine Bl.drew ?_ | with_reducible refine Bl.alloc ?_ _ | with_reducible refine Bl.trans ?_ (by assumption))); done))
    (first
      | (go_at_call 68; (with_reducible refine (HI1.out _ (by ((repeat (first | with_reducible exact Bl.refl _ | with_reducible assumption | with_reducible refine Bl.drew ?_ | with_reducible refine Bl.alloc ?_ _ | with_reducible refine Bl.trans ?_ (by assumption))); done))).mono ?_); rintro e' w6 ⟨rfl, m6⟩)
      | (go_at_call 68; (with_reducible refine (HI2.out _ (by ((repeat (first | with_reducible exact Bl.refl _ | with_reducible assumption | with_reducible refine Bl.drew ?_ | with_reducible refine Bl.alloc ?_ _ | with_reducible refine Bl.trans ?_ (by assumption))); done))).mono ?_); rintro e' w7 ⟨rfl, m7⟩))
  have hb7 : Bl W w7 := by ((repeat (first | with_reducible exact Bl.refl _ | with_reducible assumption | with_reducible refine Bl.drew ?_ | with_reducible refine Bl.alloc ?_ _ | with_reducible refine Bl.trans ?_ (by assumption))); done)
  clear k0 k1 k2 k3
  obtain ⟨k0, k1, k2, k3⟩ := KK.out _ hb7
  have HB7 := Lib.hid hb7
  have kw := HKW.out _ hb7
  have kg : 0 < w7.heap.size := World.block_lt_of_cell? _ _ kw
  generalize kWord 2 = K at *
  go_wp2_with fail
  go_returns
  exact ⟨by rw [e.out]; rfl, bW.trans HB7.out⟩

set_option maxRecDepth 100000 in
set_option maxHeartbeats 6400000 in
theorem show_3 (d : Nat) (_ : ShowOk d) (p : Pk) (sv : Value) (w : World) (hk : p.kind = 3) (hg : Good (d + 1) p) (hsv : PkV w sv p.args) (hpw : PowAt w) (hkw : KwAt w) :
    Calls Tryd.prog 29 #[.agg #[.int .i64 3, .int .i64 p.frm, .int .i64 p.to, sv]] w fun e w' => e = .returned (.string (bs (txt (d + 1) p))) ∧ Bl w w' := by
  obtain ⟨o, cap, rfl, hm⟩ := hsv.form
  obtain ⟨_, ⟨f0, f1⟩, ⟨t0, t1⟩, hn4, _, _, _⟩ := ck1_ok hg.own
  obtain ⟨W, hW⟩ : ∃ W, W = w.alloc (.cells #[.int .i64 3, .int .i64 p.frm, .int .i64 p.to, .slice o p.args.length cap] 24) := ⟨_, rfl⟩
  have bW : Bl w W := by rw [hW]; exact (Bl.refl w).alloc _
  have KK := Lib.hid (fun w' (m : Bl W w') => show w'.cell? ⟨w.heap.size, 0, none⟩ = some (.int .i64 3) ∧ w'.cell? ⟨w.heap.size, 1, none⟩ = some (.int .i64 p.frm) ∧ w'.cell? ⟨w.heap.size, 2, none⟩ = some (.int .i64 p.to) ∧ w'.cell? ⟨w.heap.size, 3, none⟩ = some (.slice o p.args.length cap) from ⟨m.cell (by rw [hW]; simp), m.cell (by rw [hW]; simp), m.cell (by rw [hW]; simp), m.cell (by rw [hW]; simp)⟩)
  have HP := Lib.hid (hpw.bl bW)
  have HI := Lib.hid (fun n w' (h0 : 0 ≤ n) (h1 : n ≤ 9999) (m : Bl W w') => (itoa_any n w' h0 (by omega) (PowAt.bl HP.out m)).mono fun e w'' (h : _ ∧ Gr w' w'') => (⟨h.1, h.2.bl⟩ : e = .returned (.string (bs (numT n))) ∧ Bl w' w''))
  have HI1 := Lib.hid (fun w' (m : Bl W w') => HI.out p.frm w' f0 f1 m)
  have HI2 := Lib.hid (fun w' (m : Bl W w') => HI.out p.to w' t0 t1 m)
  obtain ⟨k0, k1, k2, k3⟩ := KK.out _ (Bl.refl _)
  have cw1 := k1
  have cw2 := k2
  have s1 : (bs (numT p.frm)).size ≤ 4 := by rw [bs_size]; exact numT_len f1
  have s2 : (bs (numT p.to)).size ≤ 4 := by rw [bs_size]; exact numT_len t1
  have s3 : (bs (kWord 3)).size ≤ 6 := by rw [bs_size]; exact kWord_len _
  have R1 : ∀ w, (Op.stringOp .add (bs (kWord 3)) ⟨#[32]⟩).run Tryd.prog w = .ok (.string ((bs (kWord 3)) ++ ⟨#[32]⟩)) w := fun w => run_string_add_sum w _ _ (by show _ + 1 ≤ _; omega)
  have R2 : ∀ w, (Op.stringOp .add ((bs (kWord 3)) ++ ⟨#[32]⟩) (bs (numT p.frm))).run Tryd.prog w = .ok (.string (((bs (kWord 3)) ++ ⟨#[32]⟩) ++ (bs (numT p.frm)))) w := fun w => run_string_add_sum w _ _ (by rw [ByteArray.size_append]; show _ + 1 + _ ≤ _; omega)
  have HKW := Lib.hid (fun w' (m : Bl W w') => (hkw.bl (bW.trans m)) 3 (by decide))
  have e : Hid (bs (txt (d + 1) p) = bs (kWord 3) ++ ⟨#[32]⟩ ++ bs (numT p.frm)) := by
    show _ = _
    rw [txt, if_neg (by omega), if_pos (by omega), hk, ← bs_app, ← bs_app]; rfl
  clear hg hsv hpw hkw hk hn4
  obtain ⟨X, hX⟩ : ∃ X, bs (txt (d + 1) p) = X := ⟨_, rfl⟩
  rw [hX] at e ⊢
  generalize p.frm = f at *
  generalize p.to = t at *
  clear hX
  go_enter Tryd.func29, Tryd.ntmps29
  go_wp2_with fail
  rw [← hW]
  clear hW
  go_region_held3 (fun w' => w'.cell? ⟨w.heap.size, 1, none⟩ = some (.int .i64 f) ∧ w'.cell? ⟨w.heap.size, 2, none⟩ = some (.int .i64 t))
    (refine ⟨Bl.cell (w := W) ?_ cw1, Bl.cell (w := W) ?_ cw2⟩ <;> ((repeat (first | with_reducible exact Bl.refl _ | with_reducible assumption | with_reducible refine Bl.drew ?_ | with_reducible refine Bl.alloc ?_ _ | with_reducible refine Bl.trans ?_ (by assumption))); done))
    (first
      | (go_at_call 68; (with_reducible refine (HI1.out _ (by ((repeat (first | with_reducible exact Bl.refl _ | with_reducible assumption | with_reducible refine Bl.drew ?_ | with_reducible refine Bl.alloc ?_ _ | with_reducible refine Bl.trans ?_ (by assumption))); done))).mono ?_); rintro e' w6 ⟨rfl, m6⟩)
      | (go_at_call 68; (with_reducible refine (HI2.out _ (by ((repeat (first | with_reducible exact Bl.refl _ | with_reducible assumption | with_reducible refine Bl.drew ?_ | with_reducible refine Bl.alloc ?_ _ | with_reducible refine Bl.trans ?_ (by assumption))); done))).mono ?_); rintro e' w7 ⟨rfl, m7⟩))
  have hb7 : Bl W w7 := by ((repeat (first | with_reducible exact Bl.refl _ | with_reducible assumption | with_reducible refine Bl.drew ?_ | with_reducible refine Bl.alloc ?_ _ | with_reducible refine Bl.trans ?_ (by assumption))); done)
  clear k0 k1 k2 k3
  obtain ⟨k0, k1, k2, k3⟩ := KK.out _ hb7
  have HB7 := Lib.hid hb7
  have kw := HKW.out _ hb7
  have kg : 0 < w7.heap.size := World.block_lt_of_cell? _ _ kw
  generalize kWord 3 = K at *
  go_wp2_with fail
  go_returns
  exact ⟨by rw [e.out]; rfl, bW.trans HB7.out⟩

set_option maxRecDepth 100000 in
set_option maxHeartbeats 6400000 in
theorem show_4 (d : Nat) (ih : ShowOk d) (p : Pk) (sv : Value) (w : World) (hk : p.kind = 4) (hg : Good (d + 1) p) (hsv : PkV w sv p.args) (hpw : PowAt w) (hkw : KwAt w) :
    Calls Tryd.prog 29 #[.agg #[.int .i64 4, .int .i64 p.frm, .int .i64 p.to, sv]] w fun e w' => e = .returned (.string (bs (txt (d + 1) p))) ∧ Bl w w' := by
  obtain ⟨o, cap, rfl, hm⟩ := hsv.form
  obtain ⟨_, ⟨f0, f1⟩, ⟨t0, t1⟩, hn4, _, _, _⟩ := ck1_ok hg.own
  obtain ⟨W, hW⟩ : ∃ W, W = w.alloc (.cells #[.int .i64 4, .int .i64 p.frm, .int .i64 p.to, .slice o p.args.length cap] 24) := ⟨_, rfl⟩
  have bW : Bl w W := by rw [hW]; exact (Bl.refl w).alloc _
  have KK := Lib.hid (fun w' (m : Bl W w') => show w'.cell? ⟨w.heap.size, 0, none⟩ = some (.int .i64 4) ∧ w'.cell? ⟨w.heap.size, 1, none⟩ = some (.int .i64 p.frm) ∧ w'.cell? ⟨w.heap.size, 2, none⟩ = some (.int .i64 p.to) ∧ w'.cell? ⟨w.heap.size, 3, none⟩ = some (.slice o p.args.length cap) from ⟨m.cell (by rw [hW]; simp), m.cell (by rw [hW]; simp), m.cell (by rw [hW]; simp), m.cell (by rw [hW]; simp)⟩)
  have HP := Lib.hid (hpw.bl bW)
  have HI := Lib.hid (fun n w' (h0 : 0 ≤ n) (h1 : n ≤ 9999) (m : Bl W w') => (itoa_any n w' h0 (by omega) (PowAt.bl HP.out m)).mono fun e w'' (h : _ ∧ Gr w' w'') => (⟨h.1, h.2.bl⟩ : e = .returned (.string (bs (numT n))) ∧ Bl w' w''))
  have HI1 := Lib.hid (fun w' (m : Bl W w') => HI.out p.frm w' f0 f1 m)
  have HI2 := Lib.hid (fun w' (m : Bl W w') => HI.out p.to w' t0 t1 m)
  obtain ⟨k0, k1, k2, k3⟩ := KK.out _ (Bl.refl _)
  have cw1 := k1
  have cw2 := k2
  have s1 : (bs (numT p.frm)).size ≤ 4 := by rw [bs_size]; exact numT_len f1
  have s2 : (bs (numT p.to)).size ≤ 4 := by rw [bs_size]; exact numT_len t1
  have HSA := Lib.hid (fun w' (m : Bl w w') => show Calls Tryd.prog 69 #[.agg #[.int .i64 4, .int .i64 p.frm, .int .i64 p.to, .slice o p.args.length cap], .string ⟨#[32, 43, 32]⟩] w' fun e w'' => e = .returned (.string (bs (join (argsT (txt d) p.kind p.args) [32, 43, 32]))) ∧ Bl w' w'' from by
    have := showArgs_any d ih p (.slice o p.args.length cap) [32, 43, 32] w' hg (hn4 (by omega)) (by decide) (hsv.bl m) (hpw.bl m) (hkw.bl m)
    rw [hk] at this ⊢
    exact this)
  have e : Hid (bs (txt (d + 1) p) = bs (join (argsT (txt d) p.kind p.args) [32, 43, 32])) := by
    show _ = _
    rw [txt, if_neg (by omega), if_neg (by omega), if_pos hk]
  clear hg hsv hpw hkw ih hk hn4
  obtain ⟨X, hX⟩ : ∃ X, bs (txt (d + 1) p) = X := ⟨_, rfl⟩
  rw [hX] at e ⊢
  generalize p.frm = f at *
  generalize p.to = t at *
  clear hX
  go_enter Tryd.func29, Tryd.ntmps29
  go_wp2_with fail
  rw [← hW]
  clear hW
  go_region_held3 (fun w' => w'.cell? ⟨w.heap.size, 1, none⟩ = some (.int .i64 f) ∧ w'.cell? ⟨w.heap.size, 2, none⟩ = some (.int .i64 t))
    (refine ⟨Bl.cell (w := W) ?_ cw1, Bl.cell (w := W) ?_ cw2⟩ <;> ((repeat (first | with_reducible exact Bl.refl _ | with_reducible assumption | with_reducible refine Bl.drew ?_ | with_reducible refine Bl.alloc ?_ _ | with_reducible refine Bl.trans ?_ (by assumption))); done))
    (first
      | (go_at_call 68; (with_reducible refine (HI1.out _ (by ((repeat (first | with_reducible exact Bl.refl _ | with_reducible assumption | with_reducible refine Bl.drew ?_ | with_reducible refine Bl.alloc ?_ _ | with_reducible refine Bl.trans ?_ (by assumption))); done))).mono ?_); rintro e' w6 ⟨rfl, m6⟩)
      | (go_at_call 68; (with_reducible refine (HI2.out _ (by ((repeat (first | with_reducible exact Bl.refl _ | with_reducible assumption | with_reducible refine Bl.drew ?_ | with_reducible refine Bl.alloc ?_ _ | with_reducible refine Bl.trans ?_ (by assumption))); done))).mono ?_); rintro e' w7 ⟨rfl, m7⟩))
  have hb7 : Bl W w7 := by ((repeat (first | with_reducible exact Bl.refl _ | with_reducible assumption | with_reducible refine Bl.drew ?_ | with_reducible refine Bl.alloc ?_ _ | with_reducible refine Bl.trans ?_ (by assumption))); done)
  clear k0 k1 k2 k3
  obtain ⟨k0, k1, k2, k3⟩ := KK.out _ hb7
  have HB7 := Lib.hid hb7
  go_wp2_with fail
  refine (HSA.out _ (bW.trans HB7.out)).mono ?_
  rintro e1 w8 ⟨rfl, b8⟩
  go_wp2_with fail
  go_returns
  exact ⟨by rw [e.out]; rfl, bW.trans (HB7.out.trans b8)⟩

set_option maxRecDepth 100000 in
set_option maxHeartbeats 6400000 in
theorem show_5 (d : Nat) (ih : ShowOk d) (p : Pk) (sv : Value) (w : World) (hk : p.kind = 5) (hg : Good (d + 1) p) (hsv : PkV w sv p.args) (hpw : PowAt w) (hkw : KwAt w) :
    Calls Tryd.prog 29 #[.agg #[.int .i64 5, .int .i64 p.frm, .int .i64 p.to, sv]] w fun e w' => e = .returned (.string (bs (txt (d + 1) p))) ∧ Bl w w' := by
  obtain ⟨o, cap, rfl, hm⟩ := hsv.form
  obtain ⟨_, ⟨f0, f1⟩, ⟨t0, t1⟩, hn4, _, _, _⟩ := ck1_ok hg.own
  obtain ⟨W, hW⟩ : ∃ W, W = w.alloc (.cells #[.int .i64 5, .int .i64 p.frm, .int .i64 p.to, .slice o p.args.length cap] 24) := ⟨_, rfl⟩
  have bW : Bl w W := by rw [hW]; exact (Bl.refl w).alloc _
  have KK := Lib.hid (fun w' (m : Bl W w') => show w'.cell? ⟨w.heap.size, 0, none⟩ = some (.int .i64 5) ∧ w'.cell? ⟨w.heap.size, 1, none⟩ = some (.int .i64 p.frm) ∧ w'.cell? ⟨w.heap.size, 2, none⟩ = some (.int .i64 p.to) ∧ w'.cell? ⟨w.heap.size, 3, none⟩ = some (.slice o p.args.length cap) from ⟨m.cell (by rw [hW]; simp), m.cell (by rw [hW]; simp), m.cell (by rw [hW]; simp), m.cell (by rw [hW]; simp)⟩)
  have HP := Lib.hid (hpw.bl bW)
  have HI := Lib.hid (fun n w' (h0 : 0 ≤ n) (h1 : n ≤ 9999) (m : Bl W w') => (itoa_any n w' h0 (by omega) (PowAt.bl HP.out m)).mono fun e w'' (h : _ ∧ Gr w' w'') => (⟨h.1, h.2.bl⟩ : e = .returned (.string (bs (numT n))) ∧ Bl w' w''))
  have HI1 := Lib.hid (fun w' (m : Bl W w') => HI.out p.frm w' f0 f1 m)
  have HI2 := Lib.hid (fun w' (m : Bl W w') => HI.out p.to w' t0 t1 m)
  obtain ⟨k0, k1, k2, k3⟩ := KK.out _ (Bl.refl _)
  have cw1 := k1
  have cw2 := k2
  have s1 : (bs (numT p.frm)).size ≤ 4 := by rw [bs_size]; exact numT_len f1
  have s2 : (bs (numT p.to)).size ≤ 4 := by rw [bs_size]; exact numT_len t1
  have HSA := Lib.hid (fun w' (m : Bl w w') => show Calls Tryd.prog 69 #[.agg #[.int .i64 5, .int .i64 p.frm, .int .i64 p.to, .slice o p.args.length cap], .string ⟨#[32, 45, 32]⟩] w' fun e w'' => e = .returned (.string (bs (join (argsT (txt d) p.kind p.args) [32, 45, 32]))) ∧ Bl w' w'' from by
    have := showArgs_any d ih p (.slice o p.args.length cap) [32, 45, 32] w' hg (hn4 (by omega)) (by decide) (hsv.bl m) (hpw.bl m) (hkw.bl m)
    rw [hk] at this ⊢
    exact this)
  have e : Hid (bs (txt (d + 1) p) = bs (join (argsT (txt d) p.kind p.args) [32, 45, 32])) := by
    show _ = _
    rw [txt, if_neg (by omega), if_neg (by omega), if_neg (by omega), if_pos hk]
  clear hg hsv hpw hkw ih hk hn4
  obtain ⟨X, hX⟩ : ∃ X, bs (txt (d + 1) p) = X := ⟨_, rfl⟩
  rw [hX] at e ⊢
  generalize p.frm = f at *
  generalize p.to = t at *
  clear hX
  go_enter Tryd.func29, Tryd.ntmps29
  go_wp2_with fail
  rw [← hW]
  clear hW
  go_region_held3 (fun w' => w'.cell? ⟨w.heap.size, 1, none⟩ = some (.int .i64 f) ∧ w'.cell? ⟨w.heap.size, 2, none⟩ = some (.int .i64 t))
    (refine ⟨Bl.cell (w := W) ?_ cw1, Bl.cell (w := W) ?_ cw2⟩ <;> ((repeat (first | with_reducible exact Bl.refl _ | with_reducible assumption | with_reducible refine Bl.drew ?_ | with_reducible refine Bl.alloc ?_ _ | with_reducible refine Bl.trans ?_ (by assumption))); done))
    (first
      | (go_at_call 68; (with_reducible refine (HI1.out _ (by ((repeat (first | with_reducible exact Bl.refl _ | with_reducible assumption | with_reducible refine Bl.drew ?_ | with_reducible refine Bl.alloc ?_ _ | with_reducible refine Bl.trans ?_ (by assumption))); done))).mono ?_); rintro e' w6 ⟨rfl, m6⟩)
      | (go_at_call 68; (with_reducible refine (HI2.out _ (by ((repeat (first | with_reducible exact Bl.refl _ | with_reducible assumption | with_reducible refine Bl.drew ?_ | with_reducible refine Bl.alloc ?_ _ | with_reducible refine Bl.trans ?_ (by assumption))); done))).mono ?_); rintro e' w7 ⟨rfl, m7⟩))
  have hb7 : Bl W w7 := by ((repeat (first | with_reducible exact Bl.refl _ | with_reducible assumption | with_reducible refine Bl.drew ?_ | with_reducible refine Bl.alloc ?_ _ | with_reducible refine Bl.trans ?_ (by assumption))); done)
  clear k0 k1 k2 k3
  obtain ⟨k0, k1, k2, k3⟩ := KK.out _ hb7
  have HB7 := Lib.hid hb7
  go_wp2_with fail
  refine (HSA.out _ (bW.trans HB7.out)).mono ?_
  rintro e1 w8 ⟨rfl, b8⟩
  go_wp2_with fail
  go_returns
  exact ⟨by rw [e.out]; rfl, bW.trans (HB7.out.trans b8)⟩

set_option maxRecDepth 100000 in
set_option maxHeartbeats 6400000 in
theorem show_6 (d : Nat) (ih : ShowOk d) (p : Pk) (sv : Value) (w : World) (hk : p.kind = 6) (hg : Good (d + 1) p) (hsv : PkV w sv p.args) (hpw : PowAt w) (hkw : KwAt w) :
    Calls Tryd.prog 29 #[.agg #[.int .i64 6, .int .i64 p.frm, .int .i64 p.to, sv]] w fun e w' => e = .returned (.string (bs (txt (d + 1) p))) ∧ Bl w w' := by
  obtain ⟨o, cap, rfl, hm⟩ := hsv.form
  obtain ⟨_, ⟨f0, f1⟩, ⟨t0, t1⟩, hn4, _, _, _⟩ := ck1_ok hg.own
  obtain ⟨W, hW⟩ : ∃ W, W = w.alloc (.cells #[.int .i64 6, .int .i64 p.frm, .int .i64 p.to, .slice o p.args.length cap] 24) := ⟨_, rfl⟩
  have bW : Bl w W := by rw [hW]; exact (Bl.refl w).alloc _
  have KK := Lib.hid (fun w' (m : Bl W w') => show w'.cell? ⟨w.heap.size, 0, none⟩ = some (.int .i64 6) ∧ w'.cell? ⟨w.heap.size, 1, none⟩ = some (.int .i64 p.frm) ∧ w'.cell? ⟨w.heap.size, 2, none⟩ = some (.int .i64 p.to) ∧ w'.cell? ⟨w.heap.size, 3, none⟩ = some (.slice o p.args.length cap) from ⟨m.cell (by rw [hW]; simp), m.cell (by rw [hW]; simp), m.cell (by rw [hW]; simp), m.cell (by rw [hW]; simp)⟩)
  have HP := Lib.hid (hpw.bl bW)
  have HI := Lib.hid (fun n w' (h0 : 0 ≤ n) (h1 : n ≤ 9999) (m : Bl W w') => (itoa_any n w' h0 (by omega) (PowAt.bl HP.out m)).mono fun e w'' (h : _ ∧ Gr w' w'') => (⟨h.1, h.2.bl⟩ : e = .returned (.string (bs (numT n))) ∧ Bl w' w''))
  have HI1 := Lib.hid (fun w' (m : Bl W w') => HI.out p.frm w' f0 f1 m)
  have HI2 := Lib.hid (fun w' (m : Bl W w') => HI.out p.to w' t0 t1 m)
  obtain ⟨k0, k1, k2, k3⟩ := KK.out _ (Bl.refl _)
  have cw1 := k1
  have cw2 := k2
  have s1 : (bs (numT p.frm)).size ≤ 4 := by rw [bs_size]; exact numT_len f1
  have s2 : (bs (numT p.to)).size ≤ 4 := by rw [bs_size]; exact numT_len t1
  have s3 : (bs (kWord 6)).size ≤ 6 := by rw [bs_size]; exact kWord_len _
  have s4 : (bs (join (argsT (txt d) p.kind p.args) [])).size ≤ 12800 := by rw [bs_size]; exact joins_le hg p.kind [] (by decide)
  have R1 : ∀ w, (Op.stringOp .add (bs (kWord 6)) ⟨#[32]⟩).run Tryd.prog w = .ok (.string ((bs (kWord 6)) ++ ⟨#[32]⟩)) w := fun w => run_string_add_sum w _ _ (by show _ + 1 ≤ _; omega)
  have z2 : ((bs (kWord 6)) ++ ⟨#[32]⟩).size ≤ 7 := by rw [ByteArray.size_append]; show _ + 1 ≤ _; omega
  have R2 : ∀ w, (Op.stringOp .add ((bs (kWord 6)) ++ ⟨#[32]⟩) (bs (join (argsT (txt d) p.kind p.args) []))).run Tryd.prog w = .ok (.string (((bs (kWord 6)) ++ ⟨#[32]⟩) ++ (bs (join (argsT (txt d) p.kind p.args) [])))) w := fun w => run_string_add_sum w _ _ (by omega)
  have HKW := Lib.hid (fun w' (m : Bl W w') => (hkw.bl (bW.trans m)) 6 (by decide))
  have HSA := Lib.hid (fun w' (m : Bl w w') => show Calls Tryd.prog 69 #[.agg #[.int .i64 6, .int .i64 p.frm, .int .i64 p.to, .slice o p.args.length cap], .string ⟨#[]⟩] w' fun e w'' => e = .returned (.string (bs (join (argsT (txt d) p.kind p.args) []))) ∧ Bl w' w'' from by
    have := showArgs_any d ih p (.slice o p.args.length cap) [] w' hg (hn4 (by omega)) (by decide) (hsv.bl m) (hpw.bl m) (hkw.bl m)
    rw [hk] at this ⊢
    exact this)
  have e : Hid (bs (txt (d + 1) p) = ((bs (kWord 6)) ++ ⟨#[32]⟩) ++ (bs (join (argsT (txt d) p.kind p.args) []))) := by
    show _ = _
    rw [txt, if_neg (by omega), if_neg (by omega), if_neg (by omega), if_neg (by omega), if_neg (by omega), ← bs_app, ← bs_app]; rw [hk]; rfl
  obtain ⟨J, hJ⟩ : ∃ J, (bs (join (argsT (txt d) p.kind p.args) [])) = J := ⟨_, rfl⟩
  rw [hJ] at *
  clear hg hsv hpw hkw ih hk hn4 hJ
  obtain ⟨X, hX⟩ : ∃ X, bs (txt (d + 1) p) = X := ⟨_, rfl⟩
  rw [hX] at e ⊢
  generalize p.frm = f at *
  generalize p.to = t at *
  clear hX
  go_enter Tryd.func29, Tryd.ntmps29
  go_wp2_with fail
  rw [← hW]
  clear hW
  go_region_held3 (fun w' => w'.cell? ⟨w.heap.size, 1, none⟩ = some (.int .i64 f) ∧ w'.cell? ⟨w.heap.size, 2, none⟩ = some (.int .i64 t))
    (refine ⟨Bl.cell (w := W) ?_ cw1, Bl.cell (w := W) ?_ cw2⟩ <;> ((repeat (first | with_reducible exact Bl.refl _ | with_reducible assumption | with_reducible refine Bl.drew ?_ | with_reducible refine Bl.alloc ?_ _ | with_reducible refine Bl.trans ?_ (by assumption))); done))
    (first
      | (go_at_call 68; (with_reducible refine (HI1.out _ (by ((repeat (first | with_reducible exact Bl.refl _ | with_reducible assumption | with_reducible refine Bl.drew ?_ | with_reducible refine Bl.alloc ?_ _ | with_reducible refine Bl.trans ?_ (by assumption))); done))).mono ?_); rintro e' w6 ⟨rfl, m6⟩)
      | (go_at_call 68; (with_reducible refine (HI2.out _ (by ((repeat (first | with_reducible exact Bl.refl _ | with_reducible assumption | with_reducible refine Bl.drew ?_ | with_reducible refine Bl.alloc ?_ _ | with_reducible refine Bl.trans ?_ (by assumption))); done))).mono ?_); rintro e' w7 ⟨rfl, m7⟩))
  have hb7 : Bl W w7 := by ((repeat (first | with_reducible exact Bl.refl _ | with_reducible assumption | with_reducible refine Bl.drew ?_ | with_reducible refine Bl.alloc ?_ _ | with_reducible refine Bl.trans ?_ (by assumption))); done)
  clear k0 k1 k2 k3
  obtain ⟨k0, k1, k2, k3⟩ := KK.out _ hb7
  have HB7 := Lib.hid hb7
  have kw := HKW.out _ hb7
  have kg : 0 < w7.heap.size := World.block_lt_of_cell? _ _ kw
  have dw0 := k0
  have dw1 := k1
  have dw2 := k2
  have dw3 := k3
  have dkw := kw
  clear hb7
  generalize kWord 6 = K at *
  go_wp2_with fail
  go_region_held3 (fun w' => w'.cell? ⟨w.heap.size, 0, none⟩ = some (.int .i64 6) ∧ w'.cell? ⟨w.heap.size, 1, none⟩ = some (.int .i64 f) ∧ w'.cell? ⟨w.heap.size, 2, none⟩ = some (.int .i64 t) ∧ w'.cell? ⟨w.heap.size, 3, none⟩ = some (.slice o p.args.length cap) ∧ w'.cell? ⟨0, 6, none⟩ = some (.string (bs K)))
    (refine ⟨Bl.cell (w := w7) ?_ dw0, Bl.cell (w := w7) ?_ dw1, Bl.cell (w := w7) ?_ dw2, Bl.cell (w := w7) ?_ dw3, Bl.cell (w := w7) ?_ dkw⟩ <;> ((repeat (first | with_reducible exact Bl.refl _ | with_reducible assumption | with_reducible refine Bl.drew ?_ | with_reducible refine Bl.alloc ?_ _ | with_reducible refine Bl.trans ?_ (by assumption))); done))
    (first
      | (go_at_call 69; (with_reducible refine (HSA.out _ (bW.trans (HB7.out.trans (by ((repeat (first | with_reducible exact Bl.refl _ | with_reducible assumption | with_reducible refine Bl.drew ?_ | with_reducible refine Bl.alloc ?_ _ | with_reducible refine Bl.trans ?_ (by assumption))); done))))).mono ?_); rintro e' w8 ⟨rfl, m8⟩))
  go_wp2_with fail
  go_returns
  exact ⟨by rw [e.out]; rfl, bW.trans (HB7.out.trans (by ((repeat (first | with_reducible exact Bl.refl _ | with_reducible assumption | with_reducible refine Bl.drew ?_ | with_reducible refine Bl.alloc ?_ _ | with_reducible refine Bl.trans ?_ (by assumption))); done)))⟩

set_option maxRecDepth 100000 in
set_option maxHeartbeats 6400000 in
theorem show_7 (d : Nat) (ih : ShowOk d) (p : Pk) (sv : Value) (w : World) (hk : p.kind = 7) (hg : Good (d + 1) p) (hsv : PkV w sv p.args) (hpw : PowAt w) (hkw : KwAt w) :
    Calls Tryd.prog 29 #[.agg #[.int .i64 7, .int .i64 p.frm, .int .i64 p.to, sv]] w fun e w' => e = .returned (.string (bs (txt (d + 1) p))) ∧ Bl w w' := by
  obtain ⟨o, cap, rfl, hm⟩ := hsv.form
  obtain ⟨_, ⟨f0, f1⟩, ⟨t0, t1⟩, hn4, _, _, _⟩ := ck1_ok hg.own
  obtain ⟨W, hW⟩ : ∃ W, W = w.alloc (.cells #[.int .i64 7, .int .i64 p.frm, .int .i64 p.to, .slice o p.args.length cap] 24) := ⟨_, rfl⟩
  have bW : Bl w W := by rw [hW]; exact (Bl.refl w).alloc _
  have KK := Lib.hid (fun w' (m : Bl W w') => show w'.cell? ⟨w.heap.size, 0, none⟩ = some (.int .i64 7) ∧ w'.cell? ⟨w.heap.size, 1, none⟩ = some (.int .i64 p.frm) ∧ w'.cell? ⟨w.heap.size, 2, none⟩ = some (.int .i64 p.to) ∧ w'.cell? ⟨w.heap.size, 3, none⟩ = some (.slice o p.args.length cap) from ⟨m.cell (by rw [hW]; simp), m.cell (by rw [hW]; simp), m.cell (by rw [hW]; simp), m.cell (by rw [hW]; simp)⟩)
  have HP := Lib.hid (hpw.bl bW)
  have HI := Lib.hid (fun n w' (h0 : 0 ≤ n) (h1 : n ≤ 9999) (m : Bl W w') => (itoa_any n w' h0 (by omega) (PowAt.bl HP.out m)).mono fun e w'' (h : _ ∧ Gr w' w'') => (⟨h.1, h.2.bl⟩ : e = .returned (.string (bs (numT n))) ∧ Bl w' w''))
  have HI1 := Lib.hid (fun w' (m : Bl W w') => HI.out p.frm w' f0 f1 m)
  have HI2 := Lib.hid (fun w' (m : Bl W w') => HI.out p.to w' t0 t1 m)
  obtain ⟨k0, k1, k2, k3⟩ := KK.out _ (Bl.refl _)
  have cw1 := k1
  have cw2 := k2
  have s1 : (bs (numT p.frm)).size ≤ 4 := by rw [bs_size]; exact numT_len f1
  have s2 : (bs (numT p.to)).size ≤ 4 := by rw [bs_size]; exact numT_len t1
  have s3 : (bs (kWord 7)).size ≤ 6 := by rw [bs_size]; exact kWord_len _
  have s4 : (bs (join (argsT (txt d) p.kind p.args) [])).size ≤ 12800 := by rw [bs_size]; exact joins_le hg p.kind [] (by decide)
  have R1 : ∀ w, (Op.stringOp .add (bs (kWord 7)) ⟨#[32]⟩).run Tryd.prog w = .ok (.string ((bs (kWord 7)) ++ ⟨#[32]⟩)) w := fun w => run_string_add_sum w _ _ (by show _ + 1 ≤ _; omega)
  have z2 : ((bs (kWord 7)) ++ ⟨#[32]⟩).size ≤ 7 := by rw [ByteArray.size_append]; show _ + 1 ≤ _; omega
  have R2 : ∀ w, (Op.stringOp .add ((bs (kWord 7)) ++ ⟨#[32]⟩) (bs (join (argsT (txt d) p.kind p.args) []))).run Tryd.prog w = .ok (.string (((bs (kWord 7)) ++ ⟨#[32]⟩) ++ (bs (join (argsT (txt d) p.kind p.args) [])))) w := fun w => run_string_add_sum w _ _ (by omega)
  have HKW := Lib.hid (fun w' (m : Bl W w') => (hkw.bl (bW.trans m)) 7 (by decide))
  have HSA := Lib.hid (fun w' (m : Bl w w') => show Calls Tryd.prog 69 #[.agg #[.int .i64 7, .int .i64 p.frm, .int .i64 p.to, .slice o p.args.length cap], .string ⟨#[]⟩] w' fun e w'' => e = .returned (.string (bs (join (argsT (txt d) p.kind p.args) []))) ∧ Bl w' w'' from by
    have := showArgs_any d ih p (.slice o p.args.length cap) [] w' hg (hn4 (by omega)) (by decide) (hsv.bl m) (hpw.bl m) (hkw.bl m)
    rw [hk] at this ⊢
    exact this)
  have e : Hid (bs (txt (d + 1) p) = ((bs (kWord 7)) ++ ⟨#[32]⟩) ++ (bs (join (argsT (txt d) p.kind p.args) []))) := by
    show _ = _
    rw [txt, if_neg (by omega), if_neg (by omega), if_neg (by omega), if_neg (by omega), if_neg (by omega), ← bs_app, ← bs_app]; rw [hk]; rfl
  obtain ⟨J, hJ⟩ : ∃ J, (bs (join (argsT (txt d) p.kind p.args) [])) = J := ⟨_, rfl⟩
  rw [hJ] at *
  clear hg hsv hpw hkw ih hk hn4 hJ
  obtain ⟨X, hX⟩ : ∃ X, bs (txt (d + 1) p) = X := ⟨_, rfl⟩
  rw [hX] at e ⊢
  generalize p.frm = f at *
  generalize p.to = t at *
  clear hX
  go_enter Tryd.func29, Tryd.ntmps29
  go_wp2_with fail
  rw [← hW]
  clear hW
  go_region_held3 (fun w' => w'.cell? ⟨w.heap.size, 1, none⟩ = some (.int .i64 f) ∧ w'.cell? ⟨w.heap.size, 2, none⟩ = some (.int .i64 t))
    (refine ⟨Bl.cell (w := W) ?_ cw1, Bl.cell (w := W) ?_ cw2⟩ <;> ((repeat (first | with_reducible exact Bl.refl _ | with_reducible assumption | with_reducible refine Bl.drew ?_ | with_reducible refine Bl.alloc ?_ _ | with_reducible refine Bl.trans ?_ (by assumption))); done))
    (first
      | (go_at_call 68; (with_reducible refine (HI1.out _ (by ((repeat (first | with_reducible exact Bl.refl _ | with_reducible assumption | with_reducible refine Bl.drew ?_ | with_reducible refine Bl.alloc ?_ _ | with_reducible refine Bl.trans ?_ (by assumption))); done))).mono ?_); rintro e' w6 ⟨rfl, m6⟩)
      | (go_at_call 68; (with_reducible refine (HI2.out _ (by ((repeat (first | with_reducible exact Bl.refl _ | with_reducible assumption | with_reducible refine Bl.drew ?_ | with_reducible refine Bl.alloc ?_ _ | with_reducible refine Bl.trans ?_ (by assumption))); done))).mono ?_); rintro e' w7 ⟨rfl, m7⟩))
  have hb7 : Bl W w7 := by ((repeat (first | with_reducible exact Bl.refl _ | with_reducible assumption | with_reducible refine Bl.drew ?_ | with_reducible refine Bl.alloc ?_ _ | with_reducible refine Bl.trans ?_ (by assumption))); done)
  clear k0 k1 k2 k3
  obtain ⟨k0, k1, k2, k3⟩ := KK.out _ hb7
  have HB7 := Lib.hid hb7
  have kw := HKW.out _ hb7
  have kg : 0 < w7.heap.size := World.block_lt_of_cell? _ _ kw
  have dw0 := k0
  have dw1 := k1
  have dw2 := k2
  have dw3 := k3
  have dkw := kw
  clear hb7
  generalize kWord 7 = K at *
  go_wp2_with fail
  go_region_held3 (fun w' => w'.cell? ⟨w.heap.size, 0, none⟩ = some (.int .i64 7) ∧ w'.cell? ⟨w.heap.size, 1, none⟩ = some (.int .i64 f) ∧ w'.cell? ⟨w.heap.size, 2, none⟩ = some (.int .i64 t) ∧ w'.cell? ⟨w.heap.size, 3, none⟩ = some (.slice o p.args.length cap) ∧ w'.cell? ⟨0, 7, none⟩ = some (.string (bs K)))
    (refine ⟨Bl.cell (w := w7) ?_ dw0, Bl.cell (w := w7) ?_ dw1, Bl.cell (w := w7) ?_ dw2, Bl.cell (w := w7) ?_ dw3, Bl.cell (w := w7) ?_ dkw⟩ <;> ((repeat (first | with_reducible exact Bl.refl _ | with_reducible assumption | with_reducible refine Bl.drew ?_ | with_reducible refine Bl.alloc ?_ _ | with_reducible refine Bl.trans ?_ (by assumption))); done))
    (first
      | (go_at_call 69; (with_reducible refine (HSA.out _ (bW.trans (HB7.out.trans (by ((repeat (first | with_reducible exact Bl.refl _ | with_reducible assumption | with_reducible refine Bl.drew ?_ | with_reducible refine Bl.alloc ?_ _ | with_reducible refine Bl.trans ?_ (by assumption))); done))))).mono ?_); rintro e' w8 ⟨rfl, m8⟩))
  go_wp2_with fail
  go_returns
  exact ⟨by rw [e.out]; rfl, bW.trans (HB7.out.trans (by ((repeat (first | with_reducible exact Bl.refl _ | with_reducible assumption | with_reducible refine Bl.drew ?_ | with_reducible refine Bl.alloc ?_ _ | with_reducible refine Bl.trans ?_ (by assumption))); done)))⟩

set_option maxRecDepth 100000 in
set_option maxHeartbeats 6400000 in
theorem show_8 (d : Nat) (ih : ShowOk d) (p : Pk) (sv : Value) (w : World) (hk : p.kind = 8) (hg : Good (d + 1) p) (hsv : PkV w sv p.args) (hpw : PowAt w) (hkw : KwAt w) :
    Calls Tryd.prog 29 #[.agg #[.int .i64 8, .int .i64 p.frm, .int .i64 p.to, sv]] w fun e w' => e = .returned (.string (bs (txt (d + 1) p))) ∧ Bl w w' := by
  obtain ⟨o, cap, rfl, hm⟩ := hsv.form
  obtain ⟨_, ⟨f0, f1⟩, ⟨t0, t1⟩, hn4, _, _, _⟩ := ck1_ok hg.own
  obtain ⟨W, hW⟩ : ∃ W, W = w.alloc (.cells #[.int .i64 8, .int .i64 p.frm, .int .i64 p.to, .slice o p.args.length cap] 24) := ⟨_, rfl⟩
  have bW : Bl w W := by rw [hW]; exact (Bl.refl w).alloc _
  have KK := Lib.hid (fun w' (m : Bl W w') => show w'.cell? ⟨w.heap.size, 0, none⟩ = some (.int .i64 8) ∧ w'.cell? ⟨w.heap.size, 1, none⟩ = some (.int .i64 p.frm) ∧ w'.cell? ⟨w.heap.size, 2, none⟩ = some (.int .i64 p.to) ∧ w'.cell? ⟨w.heap.size, 3, none⟩ = some (.slice o p.args.length cap) from ⟨m.cell (by rw [hW]; simp), m.cell (by rw [hW]; simp), m.cell (by rw [hW]; simp), m.cell (by rw [hW]; simp)⟩)
  have HP := Lib.hid (hpw.bl bW)
  have HI := Lib.hid (fun n w' (h0 : 0 ≤ n) (h1 : n ≤ 9999) (m : Bl W w') => (itoa_any n w' h0 (by omega) (PowAt.bl HP.out m)).mono fun e w'' (h : _ ∧ Gr w' w'') => (⟨h.1, h.2.bl⟩ : e = .returned (.string (bs (numT n))) ∧ Bl w' w''))
  have HI1 := Lib.hid (fun w' (m : Bl W w') => HI.out p.frm w' f0 f1 m)
  have HI2 := Lib.hid (fun w' (m : Bl W w') => HI.out p.to w' t0 t1 m)
  obtain ⟨k0, k1, k2, k3⟩ := KK.out _ (Bl.refl _)
  have cw1 := k1
  have cw2 := k2
  have s1 : (bs (numT p.frm)).size ≤ 4 := by rw [bs_size]; exact numT_len f1
  have s2 : (bs (numT p.to)).size ≤ 4 := by rw [bs_size]; exact numT_len t1
  have s3 : (bs (kWord 8)).size ≤ 6 := by rw [bs_size]; exact kWord_len _
  have s4 : (bs (join (argsT (txt d) p.kind p.args) [])).size ≤ 12800 := by rw [bs_size]; exact joins_le hg p.kind [] (by decide)
  have R1 : ∀ w, (Op.stringOp .add (bs (kWord 8)) ⟨#[32]⟩).run Tryd.prog w = .ok (.string ((bs (kWord 8)) ++ ⟨#[32]⟩)) w := fun w => run_string_add_sum w _ _ (by show _ + 1 ≤ _; omega)
  have z2 : ((bs (kWord 8)) ++ ⟨#[32]⟩).size ≤ 7 := by rw [ByteArray.size_append]; show _ + 1 ≤ _; omega
  have R2 : ∀ w, (Op.stringOp .add ((bs (kWord 8)) ++ ⟨#[32]⟩) (bs (join (argsT (txt d) p.kind p.args) []))).run Tryd.prog w = .ok (.string (((bs (kWord 8)) ++ ⟨#[32]⟩) ++ (bs (join (argsT (txt d) p.kind p.args) [])))) w := fun w => run_string_add_sum w _ _ (by omega)
  have HKW := Lib.hid (fun w' (m : Bl W w') => (hkw.bl (bW.trans m)) 8 (by decide))
  have HSA := Lib.hid (fun w' (m : Bl w w') => show Calls Tryd.prog 69 #[.agg #[.int .i64 8, .int .i64 p.frm, .int .i64 p.to, .slice o p.args.length cap], .string ⟨#[]⟩] w' fun e w'' => e = .returned (.string (bs (join (argsT (txt d) p.kind p.args) []))) ∧ Bl w' w'' from by
    have := showArgs_any d ih p (.slice o p.args.length cap) [] w' hg (hn4 (by omega)) (by decide) (hsv.bl m) (hpw.bl m) (hkw.bl m)
    rw [hk] at this ⊢
    exact this)
  have e : Hid (bs (txt (d + 1) p) = ((bs (kWord 8)) ++ ⟨#[32]⟩) ++ (bs (join (argsT (txt d) p.kind p.args) []))) := by
    show _ = _
    rw [txt, if_neg (by omega), if_neg (by omega), if_neg (by omega), if_neg (by omega), if_neg (by omega), ← bs_app, ← bs_app]; rw [hk]; rfl
  obtain ⟨J, hJ⟩ : ∃ J, (bs (join (argsT (txt d) p.kind p.args) [])) = J := ⟨_, rfl⟩
  rw [hJ] at *
  clear hg hsv hpw hkw ih hk hn4 hJ
  obtain ⟨X, hX⟩ : ∃ X, bs (txt (d + 1) p) = X := ⟨_, rfl⟩
  rw [hX] at e ⊢
  generalize p.frm = f at *
  generalize p.to = t at *
  clear hX
  go_enter Tryd.func29, Tryd.ntmps29
  go_wp2_with fail
  rw [← hW]
  clear hW
  go_region_held3 (fun w' => w'.cell? ⟨w.heap.size, 1, none⟩ = some (.int .i64 f) ∧ w'.cell? ⟨w.heap.size, 2, none⟩ = some (.int .i64 t))
    (refine ⟨Bl.cell (w := W) ?_ cw1, Bl.cell (w := W) ?_ cw2⟩ <;> ((repeat (first | with_reducible exact Bl.refl _ | with_reducible assumption | with_reducible refine Bl.drew ?_ | with_reducible refine Bl.alloc ?_ _ | with_reducible refine Bl.trans ?_ (by assumption))); done))
    (first
      | (go_at_call 68; (with_reducible refine (HI1.out _ (by ((repeat (first | with_reducible exact Bl.refl _ | with_reducible assumption | with_reducible refine Bl.drew ?_ | with_reducible refine Bl.alloc ?_ _ | with_reducible refine Bl.trans ?_ (by assumption))); done))).mono ?_); rintro e' w6 ⟨rfl, m6⟩)
      | (go_at_call 68; (with_reducible refine (HI2.out _ (by ((repeat (first | with_reducible exact Bl.refl _ | with_reducible assumption | with_reducible refine Bl.drew ?_ | with_reducible refine Bl.alloc ?_ _ | with_reducible refine Bl.trans ?_ (by assumption))); done))).mono ?_); rintro e' w7 ⟨rfl, m7⟩))
  have hb7 : Bl W w7 := by ((repeat (first | with_reducible exact Bl.refl _ | with_reducible assumption | with_reducible refine Bl.drew ?_ | with_reducible refine Bl.alloc ?_ _ | with_reducible refine Bl.trans ?_ (by assumption))); done)
  clear k0 k1 k2 k3
  obtain ⟨k0, k1, k2, k3⟩ := KK.out _ hb7
  have HB7 := Lib.hid hb7
  have kw := HKW.out _ hb7
  have kg : 0 < w7.heap.size := World.block_lt_of_cell? _ _ kw
  have dw0 := k0
  have dw1 := k1
  have dw2 := k2
  have dw3 := k3
  have dkw := kw
  clear hb7
  generalize kWord 8 = K at *
  go_wp2_with fail
  go_region_held3 (fun w' => w'.cell? ⟨w.heap.size, 0, none⟩ = some (.int .i64 8) ∧ w'.cell? ⟨w.heap.size, 1, none⟩ = some (.int .i64 f) ∧ w'.cell? ⟨w.heap.size, 2, none⟩ = some (.int .i64 t) ∧ w'.cell? ⟨w.heap.size, 3, none⟩ = some (.slice o p.args.length cap) ∧ w'.cell? ⟨0, 8, none⟩ = some (.string (bs K)))
    (refine ⟨Bl.cell (w := w7) ?_ dw0, Bl.cell (w := w7) ?_ dw1, Bl.cell (w := w7) ?_ dw2, Bl.cell (w := w7) ?_ dw3, Bl.cell (w := w7) ?_ dkw⟩ <;> ((repeat (first | with_reducible exact Bl.refl _ | with_reducible assumption | with_reducible refine Bl.drew ?_ | with_reducible refine Bl.alloc ?_ _ | with_reducible refine Bl.trans ?_ (by assumption))); done))
    (first
      | (go_at_call 69; (with_reducible refine (HSA.out _ (bW.trans (HB7.out.trans (by ((repeat (first | with_reducible exact Bl.refl _ | with_reducible assumption | with_reducible refine Bl.drew ?_ | with_reducible refine Bl.alloc ?_ _ | with_reducible refine Bl.trans ?_ (by assumption))); done))))).mono ?_); rintro e' w8 ⟨rfl, m8⟩))
  go_wp2_with fail
  go_returns
  exact ⟨by rw [e.out]; rfl, bW.trans (HB7.out.trans (by ((repeat (first | with_reducible exact Bl.refl _ | with_reducible assumption | with_reducible refine Bl.drew ?_ | with_reducible refine Bl.alloc ?_ _ | with_reducible refine Bl.trans ?_ (by assumption))); done)))⟩

set_option maxRecDepth 100000 in
set_option maxHeartbeats 6400000 in
theorem show_9 (d : Nat) (ih : ShowOk d) (p : Pk) (sv : Value) (w : World) (hk : p.kind = 9) (hg : Good (d + 1) p) (hsv : PkV w sv p.args) (hpw : PowAt w) (hkw : KwAt w) :
    Calls Tryd.prog 29 #[.agg #[.int .i64 9, .int .i64 p.frm, .int .i64 p.to, sv]] w fun e w' => e = .returned (.string (bs (txt (d + 1) p))) ∧ Bl w w' := by
  obtain ⟨o, cap, rfl, hm⟩ := hsv.form
  obtain ⟨_, ⟨f0, f1⟩, ⟨t0, t1⟩, hn4, _, _, _⟩ := ck1_ok hg.own
  obtain ⟨W, hW⟩ : ∃ W, W = w.alloc (.cells #[.int .i64 9, .int .i64 p.frm, .int .i64 p.to, .slice o p.args.length cap] 24) := ⟨_, rfl⟩
  have bW : Bl w W := by rw [hW]; exact (Bl.refl w).alloc _
  have KK := Lib.hid (fun w' (m : Bl W w') => show w'.cell? ⟨w.heap.size, 0, none⟩ = some (.int .i64 9) ∧ w'.cell? ⟨w.heap.size, 1, none⟩ = some (.int .i64 p.frm) ∧ w'.cell? ⟨w.heap.size, 2, none⟩ = some (.int .i64 p.to) ∧ w'.cell? ⟨w.heap.size, 3, none⟩ = some (.slice o p.args.length cap) from ⟨m.cell (by rw [hW]; simp), m.cell (by rw [hW]; simp), m.cell (by rw [hW]; simp), m.cell (by rw [hW]; simp)⟩)
  have HP := Lib.hid (hpw.bl bW)
  have HI := Lib.hid (fun n w' (h0 : 0 ≤ n) (h1 : n ≤ 9999) (m : Bl W w') => (itoa_any n w' h0 (by omega) (PowAt.bl HP.out m)).mono fun e w'' (h : _ ∧ Gr w' w'') => (⟨h.1, h.2.bl⟩ : e = .returned (.string (bs (numT n))) ∧ Bl w' w''))
  have HI1 := Lib.hid (fun w' (m : Bl W w') => HI.out p.frm w' f0 f1 m)
  have HI2 := Lib.hid (fun w' (m : Bl W w') => HI.out p.to w' t0 t1 m)
  obtain ⟨k0, k1, k2, k3⟩ := KK.out _ (Bl.refl _)
  have cw1 := k1
  have cw2 := k2
  have s1 : (bs (numT p.frm)).size ≤ 4 := by rw [bs_size]; exact numT_len f1
  have s2 : (bs (numT p.to)).size ≤ 4 := by rw [bs_size]; exact numT_len t1
  have s3 : (bs (kWord 9)).size ≤ 6 := by rw [bs_size]; exact kWord_len _
  have s4 : (bs (join (argsT (txt d) p.kind p.args) [])).size ≤ 12800 := by rw [bs_size]; exact joins_le hg p.kind [] (by decide)
  have R1 : ∀ w, (Op.stringOp .add (bs (kWord 9)) ⟨#[32]⟩).run Tryd.prog w = .ok (.string ((bs (kWord 9)) ++ ⟨#[32]⟩)) w := fun w => run_string_add_sum w _ _ (by show _ + 1 ≤ _; omega)
  have z2 : ((bs (kWord 9)) ++ ⟨#[32]⟩).size ≤ 7 := by rw [ByteArray.size_append]; show _ + 1 ≤ _; omega
  have R2 : ∀ w, (Op.stringOp .add ((bs (kWord 9)) ++ ⟨#[32]⟩) (bs (numT p.frm))).run Tryd.prog w = .ok (.string (((bs (kWord 9)) ++ ⟨#[32]⟩) ++ (bs (numT p.frm)))) w := fun w => run_string_add_sum w _ _ (by omega)
  have z3 : (((bs (kWord 9)) ++ ⟨#[32]⟩) ++ (bs (numT p.frm))).size ≤ 11 := by rw [ByteArray.size_append]; omega
  have R3 : ∀ w, (Op.stringOp .add (((bs (kWord 9)) ++ ⟨#[32]⟩) ++ (bs (numT p.frm))) ⟨#[32, 102, 114, 111, 109, 32]⟩).run Tryd.prog w = .ok (.string ((((bs (kWord 9)) ++ ⟨#[32]⟩) ++ (bs (numT p.frm))) ++ ⟨#[32, 102, 114, 111, 109, 32]⟩)) w := fun w => run_string_add_sum w _ _ (by show _ + 6 ≤ _; omega)
  have z4 : ((((bs (kWord 9)) ++ ⟨#[32]⟩) ++ (bs (numT p.frm))) ++ ⟨#[32, 102, 114, 111, 109, 32]⟩).size ≤ 17 := by rw [ByteArray.size_append]; show _ + 6 ≤ _; omega
  have R4 : ∀ w, (Op.stringOp .add ((((bs (kWord 9)) ++ ⟨#[32]⟩) ++ (bs (numT p.frm))) ++ ⟨#[32, 102, 114, 111, 109, 32]⟩) (bs (numT p.to))).run Tryd.prog w = .ok (.string (((((bs (kWord 9)) ++ ⟨#[32]⟩) ++ (bs (numT p.frm))) ++ ⟨#[32, 102, 114, 111, 109, 32]⟩) ++ (bs (numT p.to)))) w := fun w => run_string_add_sum w _ _ (by omega)
  have z5 : (((((bs (kWord 9)) ++ ⟨#[32]⟩) ++ (bs (numT p.frm))) ++ ⟨#[32, 102, 114, 111, 109, 32]⟩) ++ (bs (numT p.to))).size ≤ 21 := by rw [ByteArray.size_append]; omega
  have R5 : ∀ w, (Op.stringOp .add (((((bs (kWord 9)) ++ ⟨#[32]⟩) ++ (bs (numT p.frm))) ++ ⟨#[32, 102, 114, 111, 109, 32]⟩) ++ (bs (numT p.to))) ⟨#[32]⟩).run Tryd.prog w = .ok (.string ((((((bs (kWord 9)) ++ ⟨#[32]⟩) ++ (bs (numT p.frm))) ++ ⟨#[32, 102, 114, 111, 109, 32]⟩) ++ (bs (numT p.to))) ++ ⟨#[32]⟩)) w := fun w => run_string_add_sum w _ _ (by show _ + 1 ≤ _; omega)
  have z6 : ((((((bs (kWord 9)) ++ ⟨#[32]⟩) ++ (bs (numT p.frm))) ++ ⟨#[32, 102, 114, 111, 109, 32]⟩) ++ (bs (numT p.to))) ++ ⟨#[32]⟩).size ≤ 22 := by rw [ByteArray.size_append]; show _ + 1 ≤ _; omega
  have R6 : ∀ w, (Op.stringOp .add ((((((bs (kWord 9)) ++ ⟨#[32]⟩) ++ (bs (numT p.frm))) ++ ⟨#[32, 102, 114, 111, 109, 32]⟩) ++ (bs (numT p.to))) ++ ⟨#[32]⟩) (bs (join (argsT (txt d) p.kind p.args) []))).run Tryd.prog w = .ok (.string (((((((bs (kWord 9)) ++ ⟨#[32]⟩) ++ (bs (numT p.frm))) ++ ⟨#[32, 102, 114, 111, 109, 32]⟩) ++ (bs (numT p.to))) ++ ⟨#[32]⟩) ++ (bs (join (argsT (txt d) p.kind p.args) [])))) w := fun w => run_string_add_sum w _ _ (by omega)
  have HKW := Lib.hid (fun w' (m : Bl W w') => (hkw.bl (bW.trans m)) 9 (by decide))
  have HSA := Lib.hid (fun w' (m : Bl w w') => show Calls Tryd.prog 69 #[.agg #[.int .i64 9, .int .i64 p.frm, .int .i64 p.to, .slice o p.args.length cap], .string ⟨#[]⟩] w' fun e w'' => e = .returned (.string (bs (join (argsT (txt d) p.kind p.args) []))) ∧ Bl w' w'' from by
    have := showArgs_any d ih p (.slice o p.args.length cap) [] w' hg (hn4 (by omega)) (by decide) (hsv.bl m) (hpw.bl m) (hkw.bl m)
    rw [hk] at this ⊢
    exact this)
  have e : Hid (bs (txt (d + 1) p) = ((((((bs (kWord 9)) ++ ⟨#[32]⟩) ++ (bs (numT p.frm))) ++ ⟨#[32, 102, 114, 111, 109, 32]⟩) ++ (bs (numT p.to))) ++ ⟨#[32]⟩) ++ (bs (join (argsT (txt d) p.kind p.args) []))) := by
    show _ = _
    rw [txt, if_neg (by omega), if_neg (by omega), if_neg (by omega), if_neg (by omega), if_pos hk, ← bs_app, ← bs_app, ← bs_app, ← bs_app, ← bs_app, ← bs_app]; rfl
  obtain ⟨J, hJ⟩ : ∃ J, (bs (join (argsT (txt d) p.kind p.args) [])) = J := ⟨_, rfl⟩
  rw [hJ] at *
  clear hg hsv hpw hkw ih hk hn4 hJ
  obtain ⟨X, hX⟩ : ∃ X, bs (txt (d + 1) p) = X := ⟨_, rfl⟩
  rw [hX] at e ⊢
  generalize p.frm = f at *
  generalize p.to = t at *
  clear hX
  go_enter Tryd.func29, Tryd.ntmps29
  go_wp2_with fail
  rw [← hW]
  clear hW
  go_region_held3 (fun w' => w'.cell? ⟨w.heap.size, 1, none⟩ = some (.int .i64 f) ∧ w'.cell? ⟨w.heap.size, 2, none⟩ = some (.int .i64 t))
    (refine ⟨Bl.cell (w := W) ?_ cw1, Bl.cell (w := W) ?_ cw2⟩ <;> ((repeat (first | with_reducible exact Bl.refl _ | with_reducible assumption | with_reducible refine Bl.drew ?_ | with_reducible refine Bl.alloc ?_ _ | with_reducible refine Bl.trans ?_ (by assumption))); done))
    (first
      | (go_at_call 68; (with_reducible refine (HI1.out _ (by ((repeat (first | with_reducible exact Bl.refl _ | with_reducible assumption | with_reducible refine Bl.drew ?_ | with_reducible refine Bl.alloc ?_ _ | with_reducible refine Bl.trans ?_ (by assumption))); done))).mono ?_); rintro e' w6 ⟨rfl, m6⟩)
      | (go_at_call 68; (with_reducible refine (HI2.out _ (by ((repeat (first | with_reducible exact Bl.refl _ | with_reducible assumption | with_reducible refine Bl.drew ?_ | with_reducible refine Bl.alloc ?_ _ | with_reducible refine Bl.trans ?_ (by assumption))); done))).mono ?_); rintro e' w7 ⟨rfl, m7⟩))
  have hb7 : Bl W w7 := by ((repeat (first | with_reducible exact Bl.refl _ | with_reducible assumption | with_reducible refine Bl.drew ?_ | with_reducible refine Bl.alloc ?_ _ | with_reducible refine Bl.trans ?_ (by assumption))); done)
  clear k0 k1 k2 k3
  obtain ⟨k0, k1, k2, k3⟩ := KK.out _ hb7
  have HB7 := Lib.hid hb7
  have kw := HKW.out _ hb7
  have kg : 0 < w7.heap.size := World.block_lt_of_cell? _ _ kw
  have dw0 := k0
  have dw1 := k1
  have dw2 := k2
  have dw3 := k3
  have dkw := kw
  clear hb7
  generalize kWord 9 = K at *
  go_wp2_with fail
  go_region_held3 (fun w' => w'.cell? ⟨w.heap.size, 0, none⟩ = some (.int .i64 9) ∧ w'.cell? ⟨w.heap.size, 1, none⟩ = some (.int .i64 f) ∧ w'.cell? ⟨w.heap.size, 2, none⟩ = some (.int .i64 t) ∧ w'.cell? ⟨w.heap.size, 3, none⟩ = some (.slice o p.args.length cap) ∧ w'.cell? ⟨0, 9, none⟩ = some (.string (bs K)))
    (refine ⟨Bl.cell (w := w7) ?_ dw0, Bl.cell (w := w7) ?_ dw1, Bl.cell (w := w7) ?_ dw2, Bl.cell (w := w7) ?_ dw3, Bl.cell (w := w7) ?_ dkw⟩ <;> ((repeat (first | with_reducible exact Bl.refl _ | with_reducible assumption | with_reducible refine Bl.drew ?_ | with_reducible refine Bl.alloc ?_ _ | with_reducible refine Bl.trans ?_ (by assumption))); done))
    (first
      | (go_at_call 69; (with_reducible refine (HSA.out _ (bW.trans (HB7.out.trans (by ((repeat (first | with_reducible exact Bl.refl _ | with_reducible assumption | with_reducible refine Bl.drew ?_ | with_reducible refine Bl.alloc ?_ _ | with_reducible refine Bl.trans ?_ (by assumption))); done))))).mono ?_); rintro e' w8 ⟨rfl, m8⟩))
  go_wp2_with fail
  go_returns
  exact ⟨by rw [e.out]; rfl, bW.trans (HB7.out.trans (by ((repeat (first | with_reducible exact Bl.refl _ | with_reducible assumption | with_reducible refine Bl.drew ?_ | with_reducible refine Bl.alloc ?_ _ | with_reducible refine Bl.trans ?_ (by assumption))); done)))⟩

theorem showOk : ∀ (d : Nat), ShowOk d := by
  intro d
  induction d with
  | zero => intro p sv w h; cases h.1
  | succ d ih =>
    intro p sv w hg hsv hpw hkw
    have h1 := (ck1_ok hg.own).1
    have key : p.kind = 1 ∨ p.kind = 2 ∨ p.kind = 3 ∨ p.kind = 4 ∨ p.kind = 5 ∨ p.kind = 6 ∨ p.kind = 7 ∨ p.kind = 8 ∨ p.kind = 9 := by omega
    rcases key with h | h | h | h | h | h | h | h | h
    · rw [h]; exact show_1 d ih p sv w h hg hsv hpw hkw
    · rw [h]; exact show_2 d ih p sv w h hg hsv hpw hkw
    · rw [h]; exact show_3 d ih p sv w h hg hsv hpw hkw
    · rw [h]; exact show_4 d ih p sv w h hg hsv hpw hkw
    · rw [h]; exact show_5 d ih p sv w h hg hsv hpw hkw
    · rw [h]; exact show_6 d ih p sv w h hg hsv hpw hkw
    · rw [h]; exact show_7 d ih p sv w h hg hsv hpw hkw
    · rw [h]; exact show_8 d ih p sv w h hg hsv hpw hkw
    · rw [h]; exact show_9 d ih p sv w h hg hsv hpw hkw
end Go.Proofs.YtgpblgalklegkaaDoor
