/- text of the reference, kind by kind. -/
import Derived.Test.YtgpblgalklegkaaDoorTxrP
import Derived.Test.YtgpblgalklegkaaDoorShoC
namespace Go.Proofs.YtgpblgalklegkaaDoor
open Go.RowKit Go.Lib Go.Sort

set_option maxRecDepth 100000 in
set_option maxHeartbeats 6400000 in
theorem text_1 (d : Nat) (_ : TextOk d) (p : Pk) (sv : Value) (w : World) (hk : p.kind = 1) (hg : Good (d + 1) p) (hsv : PkV w sv p.args) (hpw : PowAt w) :
    Calls Tryd.prog 30 #[.agg #[.int .i64 1, .int .i64 p.frm, .int .i64 p.to, sv]] w fun e w' => e = .returned (.string (bs (txt (d + 1) p))) ∧ Bl w w' := by
  obtain ⟨o, cap, rfl, hm, hcap⟩ := hsv.form
  obtain ⟨_, ⟨f0, f1⟩, ⟨t0, t1⟩, hn4, hn45, hn5, hn6⟩ := ck1_ok hg.own
  obtain ⟨W, hW⟩ : ∃ W, W = w.alloc (.cells #[.int .i64 1, .int .i64 p.frm, .int .i64 p.to, .slice o p.args.length cap] 24) := ⟨_, rfl⟩
  have bW : Bl w W := by rw [hW]; exact (Bl.refl w).alloc _
  have KK := Lib.hid (fun w' (m : Bl W w') => show w'.cell? ⟨w.heap.size, 0, none⟩ = some (.int .i64 1) ∧ w'.cell? ⟨w.heap.size, 1, none⟩ = some (.int .i64 p.frm) ∧ w'.cell? ⟨w.heap.size, 2, none⟩ = some (.int .i64 p.to) ∧ w'.cell? ⟨w.heap.size, 3, none⟩ = some (.slice o p.args.length cap) from ⟨m.cell (by rw [hW]; simp), m.cell (by rw [hW]; simp), m.cell (by rw [hW]; simp), m.cell (by rw [hW]; simp)⟩)
  have HP := Lib.hid (hpw.bl bW)
  have HI := Lib.hid (fun n w' (h0 : 0 ≤ n) (h1 : n ≤ 9999) (m : Bl W w') => (itoa_any n w' h0 (by omega) (PowAt.bl HP.out m)).mono fun e w'' (h : _ ∧ Gr w' w'') => (⟨h.1, h.2.bl⟩ : e = .returned (.string (bs (numT n))) ∧ Bl w' w''))
  have HI1 := Lib.hid (fun w' (m : Bl W w') => HI.out p.frm w' f0 f1 m)
  have HI2 := Lib.hid (fun w' (m : Bl W w') => HI.out p.to w' t0 t1 m)
  obtain ⟨k0, k1, k2, k3⟩ := KK.out _ (Bl.refl _)
  have s1 : (bs (numT p.frm)).size ≤ 4 := by rw [bs_size]; exact numT_len f1
  have s2 : (bs (numT p.to)).size ≤ 4 := by rw [bs_size]; exact numT_len t1
  have R1 : ∀ w, (Op.stringOp .add (bs (numT p.frm)) ⟨#[32, 116, 104, 114, 117, 32]⟩).run Tryd.prog w = .ok (.string ((bs (numT p.frm)) ++ ⟨#[32, 116, 104, 114, 117, 32]⟩)) w := fun w => run_string_add_sum w _ _ (by show _ + 6 ≤ _; omega)
  have R2 : ∀ w, (Op.stringOp .add ((bs (numT p.frm)) ++ ⟨#[32, 116, 104, 114, 117, 32]⟩) (bs (numT p.to))).run Tryd.prog w = .ok (.string (((bs (numT p.frm)) ++ ⟨#[32, 116, 104, 114, 117, 32]⟩) ++ (bs (numT p.to)))) w := fun w => run_string_add_sum w _ _ (by rw [ByteArray.size_append]; show _ + 6 + _ ≤ _; omega)
  by_cases hft : p.frm = p.to
  · have e : Hid (bs (txt (d + 1) p) = bs (numT p.frm)) := by
      show _ = _
      rw [txt, if_pos hk, if_pos hft]
    have q1 : (p.to != p.frm) = false := by rw [bne_eq_false_iff_eq]; exact hft.symm
    clear hft R1 R2
    clear hg hsv hpw hn4 hn45 hn5 hn6 HI hk 
    obtain ⟨X, hX⟩ : ∃ X, bs (txt (d + 1) p) = X := ⟨_, rfl⟩
    rw [hX] at e ⊢
    clear hX
    generalize p.frm = f at *
    generalize p.to = t at *
    generalize p.args.length = n at *
    go_enter Tryd.func30, Tryd.ntmps30
    go_wp2_with fail
    rw [← hW]
    clear hW
    refine (HI1.out _ (Bl.refl _)).mono ?_
    rintro e1 w1 ⟨rfl, b1⟩
    clear k0 k1 k2 k3
    obtain ⟨k0, k1, k2, k3⟩ := KK.out _ b1
    go_wp2_with fail
    go_returns
    exact ⟨by rw [e.out]; rfl, bW.trans b1⟩
  · have e : Hid (bs (txt (d + 1) p) = bs (numT p.frm) ++ ⟨#[32, 116, 104, 114, 117, 32]⟩ ++ bs (numT p.to)) := by
      show _ = _
      rw [txt, if_pos hk, if_neg hft, ← bs_app, ← bs_app]; rfl
    have q1 : (p.to != p.frm) = true := by rw [bne_iff_ne]; exact fun h => hft h.symm
    clear hft
    clear hg hsv hpw hn4 hn45 hn5 hn6 HI hk 
    obtain ⟨X, hX⟩ : ∃ X, bs (txt (d + 1) p) = X := ⟨_, rfl⟩
    rw [hX] at e ⊢
    clear hX
    generalize p.frm = f at *
    generalize p.to = t at *
    generalize p.args.length = n at *
    go_enter Tryd.func30, Tryd.ntmps30
    go_wp2_with fail
    rw [← hW]
    clear hW
    refine (HI1.out _ (Bl.refl _)).mono ?_
    rintro e1 w1 ⟨rfl, b1⟩
    clear k0 k1 k2 k3
    obtain ⟨k0, k1, k2, k3⟩ := KK.out _ b1
    go_wp2_with fail
    refine (HI2.out _ b1).mono ?_
    rintro e1 w2 ⟨rfl, b2⟩
    go_wp2_with fail
    go_returns
    exact ⟨by rw [e.out]; rfl, bW.trans (b1.trans b2)⟩

set_option maxRecDepth 100000 in
set_option maxHeartbeats 6400000 in
theorem text_2 (d : Nat) (_ : TextOk d) (p : Pk) (sv : Value) (w : World) (hk : p.kind = 2) (hg : Good (d + 1) p) (hsv : PkV w sv p.args) (hpw : PowAt w) :
    Calls Tryd.prog 30 #[.agg #[.int .i64 2, .int .i64 p.frm, .int .i64 p.to, sv]] w fun e w' => e = .returned (.string (bs (txt (d + 1) p))) ∧ Bl w w' := by
  obtain ⟨o, cap, rfl, hm, hcap⟩ := hsv.form
  obtain ⟨_, ⟨f0, f1⟩, ⟨t0, t1⟩, hn4, hn45, hn5, hn6⟩ := ck1_ok hg.own
  obtain ⟨W, hW⟩ : ∃ W, W = w.alloc (.cells #[.int .i64 2, .int .i64 p.frm, .int .i64 p.to, .slice o p.args.length cap] 24) := ⟨_, rfl⟩
  have bW : Bl w W := by rw [hW]; exact (Bl.refl w).alloc _
  have KK := Lib.hid (fun w' (m : Bl W w') => show w'.cell? ⟨w.heap.size, 0, none⟩ = some (.int .i64 2) ∧ w'.cell? ⟨w.heap.size, 1, none⟩ = some (.int .i64 p.frm) ∧ w'.cell? ⟨w.heap.size, 2, none⟩ = some (.int .i64 p.to) ∧ w'.cell? ⟨w.heap.size, 3, none⟩ = some (.slice o p.args.length cap) from ⟨m.cell (by rw [hW]; simp), m.cell (by rw [hW]; simp), m.cell (by rw [hW]; simp), m.cell (by rw [hW]; simp)⟩)
  have HP := Lib.hid (hpw.bl bW)
  have HI := Lib.hid (fun n w' (h0 : 0 ≤ n) (h1 : n ≤ 9999) (m : Bl W w') => (itoa_any n w' h0 (by omega) (PowAt.bl HP.out m)).mono fun e w'' (h : _ ∧ Gr w' w'') => (⟨h.1, h.2.bl⟩ : e = .returned (.string (bs (numT n))) ∧ Bl w' w''))
  have HI1 := Lib.hid (fun w' (m : Bl W w') => HI.out p.frm w' f0 f1 m)
  have HI2 := Lib.hid (fun w' (m : Bl W w') => HI.out p.to w' t0 t1 m)
  obtain ⟨k0, k1, k2, k3⟩ := KK.out _ (Bl.refl _)
  have s1 : (bs (numT p.frm)).size ≤ 4 := by rw [bs_size]; exact numT_len f1
  have s2 : (bs (numT p.to)).size ≤ 4 := by rw [bs_size]; exact numT_len t1
  have R1 : ∀ w, (Op.stringOp .add ⟨#[103, 114, 111, 117, 112, 32]⟩ (bs (numT p.frm))).run Tryd.prog w = .ok (.string (⟨#[103, 114, 111, 117, 112, 32]⟩ ++ (bs (numT p.frm)))) w := fun w => run_string_add_sum w _ _ (by show 6 + _ ≤ _; omega)
  have e : Hid (bs (txt (d + 1) p) = ⟨#[103, 114, 111, 117, 112, 32]⟩ ++ bs (numT p.frm)) := by
    show _ = _
    rw [txt, if_neg (by omega), if_pos (by omega), hk, ← bs_app]; rfl
  clear hg hsv hpw hn4 hn45 hn5 hn6 HI hk 
  obtain ⟨X, hX⟩ : ∃ X, bs (txt (d + 1) p) = X := ⟨_, rfl⟩
  rw [hX] at e ⊢
  clear hX
  generalize p.frm = f at *
  generalize p.to = t at *
  generalize p.args.length = n at *
  go_enter Tryd.func30, Tryd.ntmps30
  go_wp2_with fail
  rw [← hW]
  clear hW
  refine (HI1.out _ (Bl.refl _)).mono ?_
  rintro e1 w1 ⟨rfl, b1⟩
  clear k0 k1 k2 k3
  obtain ⟨k0, k1, k2, k3⟩ := KK.out _ b1
  go_wp2_with fail
  go_returns
  exact ⟨by rw [e.out]; rfl, bW.trans b1⟩

set_option maxRecDepth 100000 in
set_option maxHeartbeats 6400000 in
theorem text_3 (d : Nat) (_ : TextOk d) (p : Pk) (sv : Value) (w : World) (hk : p.kind = 3) (hg : Good (d + 1) p) (hsv : PkV w sv p.args) (hpw : PowAt w) :
    Calls Tryd.prog 30 #[.agg #[.int .i64 3, .int .i64 p.frm, .int .i64 p.to, sv]] w fun e w' => e = .returned (.string (bs (txt (d + 1) p))) ∧ Bl w w' := by
  obtain ⟨o, cap, rfl, hm, hcap⟩ := hsv.form
  obtain ⟨_, ⟨f0, f1⟩, ⟨t0, t1⟩, hn4, hn45, hn5, hn6⟩ := ck1_ok hg.own
  obtain ⟨W, hW⟩ : ∃ W, W = w.alloc (.cells #[.int .i64 3, .int .i64 p.frm, .int .i64 p.to, .slice o p.args.length cap] 24) := ⟨_, rfl⟩
  have bW : Bl w W := by rw [hW]; exact (Bl.refl w).alloc _
  have KK := Lib.hid (fun w' (m : Bl W w') => show w'.cell? ⟨w.heap.size, 0, none⟩ = some (.int .i64 3) ∧ w'.cell? ⟨w.heap.size, 1, none⟩ = some (.int .i64 p.frm) ∧ w'.cell? ⟨w.heap.size, 2, none⟩ = some (.int .i64 p.to) ∧ w'.cell? ⟨w.heap.size, 3, none⟩ = some (.slice o p.args.length cap) from ⟨m.cell (by rw [hW]; simp), m.cell (by rw [hW]; simp), m.cell (by rw [hW]; simp), m.cell (by rw [hW]; simp)⟩)
  have HP := Lib.hid (hpw.bl bW)
  have HI := Lib.hid (fun n w' (h0 : 0 ≤ n) (h1 : n ≤ 9999) (m : Bl W w') => (itoa_any n w' h0 (by omega) (PowAt.bl HP.out m)).mono fun e w'' (h : _ ∧ Gr w' w'') => (⟨h.1, h.2.bl⟩ : e = .returned (.string (bs (numT n))) ∧ Bl w' w''))
  have HI1 := Lib.hid (fun w' (m : Bl W w') => HI.out p.frm w' f0 f1 m)
  have HI2 := Lib.hid (fun w' (m : Bl W w') => HI.out p.to w' t0 t1 m)
  obtain ⟨k0, k1, k2, k3⟩ := KK.out _ (Bl.refl _)
  have s1 : (bs (numT p.frm)).size ≤ 4 := by rw [bs_size]; exact numT_len f1
  have s2 : (bs (numT p.to)).size ≤ 4 := by rw [bs_size]; exact numT_len t1
  have R1 : ∀ w, (Op.stringOp .add ⟨#[112, 114, 101, 115, 101, 116, 32]⟩ (bs (numT p.frm))).run Tryd.prog w = .ok (.string (⟨#[112, 114, 101, 115, 101, 116, 32]⟩ ++ (bs (numT p.frm)))) w := fun w => run_string_add_sum w _ _ (by show 7 + _ ≤ _; omega)
  have e : Hid (bs (txt (d + 1) p) = ⟨#[112, 114, 101, 115, 101, 116, 32]⟩ ++ bs (numT p.frm)) := by
    show _ = _
    rw [txt, if_neg (by omega), if_pos (by omega), hk, ← bs_app]; rfl
  clear hg hsv hpw hn4 hn45 hn5 hn6 HI hk 
  obtain ⟨X, hX⟩ : ∃ X, bs (txt (d + 1) p) = X := ⟨_, rfl⟩
  rw [hX] at e ⊢
  clear hX
  generalize p.frm = f at *
  generalize p.to = t at *
  generalize p.args.length = n at *
  go_enter Tryd.func30, Tryd.ntmps30
  go_wp2_with fail
  rw [← hW]
  clear hW
  refine (HI1.out _ (Bl.refl _)).mono ?_
  rintro e1 w1 ⟨rfl, b1⟩
  clear k0 k1 k2 k3
  obtain ⟨k0, k1, k2, k3⟩ := KK.out _ b1
  go_wp2_with fail
  go_returns
  exact ⟨by rw [e.out]; rfl, bW.trans b1⟩

set_option maxRecDepth 100000 in
set_option maxHeartbeats 6400000 in
theorem text_6 (d : Nat) (ih : TextOk d) (p : Pk) (sv : Value) (w : World) (hk : p.kind = 6) (hg : Good (d + 1) p) (hsv : PkV w sv p.args) (hpw : PowAt w) :
    Calls Tryd.prog 30 #[.agg #[.int .i64 6, .int .i64 p.frm, .int .i64 p.to, sv]] w fun e w' => e = .returned (.string (bs (txt (d + 1) p))) ∧ Bl w w' := by
  obtain ⟨o, cap, rfl, hm, hcap⟩ := hsv.form
  obtain ⟨_, ⟨f0, f1⟩, ⟨t0, t1⟩, hn4, hn45, hn5, hn6⟩ := ck1_ok hg.own
  obtain ⟨W, hW⟩ : ∃ W, W = w.alloc (.cells #[.int .i64 6, .int .i64 p.frm, .int .i64 p.to, .slice o p.args.length cap] 24) := ⟨_, rfl⟩
  have bW : Bl w W := by rw [hW]; exact (Bl.refl w).alloc _
  have KK := Lib.hid (fun w' (m : Bl W w') => show w'.cell? ⟨w.heap.size, 0, none⟩ = some (.int .i64 6) ∧ w'.cell? ⟨w.heap.size, 1, none⟩ = some (.int .i64 p.frm) ∧ w'.cell? ⟨w.heap.size, 2, none⟩ = some (.int .i64 p.to) ∧ w'.cell? ⟨w.heap.size, 3, none⟩ = some (.slice o p.args.length cap) from ⟨m.cell (by rw [hW]; simp), m.cell (by rw [hW]; simp), m.cell (by rw [hW]; simp), m.cell (by rw [hW]; simp)⟩)
  have HP := Lib.hid (hpw.bl bW)
  have HI := Lib.hid (fun n w' (h0 : 0 ≤ n) (h1 : n ≤ 9999) (m : Bl W w') => (itoa_any n w' h0 (by omega) (PowAt.bl HP.out m)).mono fun e w'' (h : _ ∧ Gr w' w'') => (⟨h.1, h.2.bl⟩ : e = .returned (.string (bs (numT n))) ∧ Bl w' w''))
  have HI1 := Lib.hid (fun w' (m : Bl W w') => HI.out p.frm w' f0 f1 m)
  have HI2 := Lib.hid (fun w' (m : Bl W w') => HI.out p.to w' t0 t1 m)
  obtain ⟨k0, k1, k2, k3⟩ := KK.out _ (Bl.refl _)
  have s1 : (bs (numT p.frm)).size ≤ 4 := by rw [bs_size]; exact numT_len f1
  have s2 : (bs (numT p.to)).size ≤ 4 := by rw [bs_size]; exact numT_len t1
  have hn1 := hn6 (by omega)
  have hlx : 0 < p.args.length := by omega
  obtain ⟨bx, offx, svx, hox, ⟨x0, x1, x2, x3⟩, hsx⟩ := hsv.at 0 hlx
  obtain ⟨ox, capx, hvx, _⟩ := hsx.form
  have hgx := hg.arg _ (List.getElem_mem hlx)
  obtain ⟨ax, hax⟩ : ∃ a, a = p.args[0]'hlx := ⟨_, rfl⟩
  rw [← hax] at x0 x1 x2 hsx hvx hgx
  subst hvx
  have s3 : (bs (innT (txt d) ax)).size ≤ 12802 := by rw [bs_size]; have := innT_len (txt d) ax; have := txt_le hgx; omega
  have HIN := Lib.hid (fun w' (m : Bl w w') => inner_any d ih ax (.slice ox ax.args.length capx) w' hgx (hsx.bl m) (hpw.bl m))
  have R1 : ∀ w, (Op.stringOp .add ⟨#[111, 100, 100, 32]⟩ (bs (innT (txt d) ax))).run Tryd.prog w = .ok (.string (⟨#[111, 100, 100, 32]⟩ ++ (bs (innT (txt d) ax)))) w := fun w => run_string_add_sum w _ _ (by show 4 + _ ≤ _; omega)
  have e : Hid (bs (txt (d + 1) p) = ⟨#[111, 100, 100, 32]⟩ ++ bs (innT (txt d) ax)) := by
    show _ = _
    rw [txt, if_neg (by omega), if_neg (by omega), if_neg (by omega), if_neg (by omega), if_neg (by omega), join_one1 [] hn1, argT_0of _ _ (by omega), ← hax, hk, ← bs_app]; rfl
  have HX := Lib.hid (fun w' (m : Bl w w') => (⟨m.cell x0, m.cell x1, m.cell x2, m.cell x3⟩ : _ ∧ _ ∧ _ ∧ _))
  simp only [Nat.zero_mul, Nat.add_zero] at HX
  obtain ⟨J, hJ⟩ : ∃ J, bs (innT (txt d) ax) = J := ⟨_, rfl⟩
  rw [hJ] at HIN e s3 R1
  subst hox
  have z1 : (0 : Int) < (p.args.length : Int) := by omega
  clear hg hsv hpw hn4 hn45 hn5 hn6 HI hk x0 x1 x2 x3 hsx hgx hax hJ ih hn1
  obtain ⟨X, hX⟩ : ∃ X, bs (txt (d + 1) p) = X := ⟨_, rfl⟩
  rw [hX] at e ⊢
  clear hX
  generalize p.frm = f at *
  generalize p.to = t at *
  go_enter Tryd.func30, Tryd.ntmps30
  go_wp2_with fail
  rw [← hW]
  clear hW
  refine (HI1.out _ (Bl.refl _)).mono ?_
  rintro e1 w1 ⟨rfl, b1⟩
  clear k0 k1 k2 k3
  obtain ⟨k0, k1, k2, k3⟩ := KK.out _ b1
  obtain ⟨x0, x1, x2, x3⟩ := HX.out _ (bW.trans b1)
  go_wp2_with fail
  refine (HIN.out _ (bW.trans b1)).mono ?_
  rintro e1 w2 ⟨rfl, b2⟩
  go_wp2_with fail
  go_returns
  exact ⟨by rw [e.out]; rfl, bW.trans (b1.trans b2)⟩

set_option maxRecDepth 100000 in
set_option maxHeartbeats 6400000 in
theorem text_7 (d : Nat) (ih : TextOk d) (p : Pk) (sv : Value) (w : World) (hk : p.kind = 7) (hg : Good (d + 1) p) (hsv : PkV w sv p.args) (hpw : PowAt w) :
    Calls Tryd.prog 30 #[.agg #[.int .i64 7, .int .i64 p.frm, .int .i64 p.to, sv]] w fun e w' => e = .returned (.string (bs (txt (d + 1) p))) ∧ Bl w w' := by
  obtain ⟨o, cap, rfl, hm, hcap⟩ := hsv.form
  obtain ⟨_, ⟨f0, f1⟩, ⟨t0, t1⟩, hn4, hn45, hn5, hn6⟩ := ck1_ok hg.own
  obtain ⟨W, hW⟩ : ∃ W, W = w.alloc (.cells #[.int .i64 7, .int .i64 p.frm, .int .i64 p.to, .slice o p.args.length cap] 24) := ⟨_, rfl⟩
  have bW : Bl w W := by rw [hW]; exact (Bl.refl w).alloc _
  have KK := Lib.hid (fun w' (m : Bl W w') => show w'.cell? ⟨w.heap.size, 0, none⟩ = some (.int .i64 7) ∧ w'.cell? ⟨w.heap.size, 1, none⟩ = some (.int .i64 p.frm) ∧ w'.cell? ⟨w.heap.size, 2, none⟩ = some (.int .i64 p.to) ∧ w'.cell? ⟨w.heap.size, 3, none⟩ = some (.slice o p.args.length cap) from ⟨m.cell (by rw [hW]; simp), m.cell (by rw [hW]; simp), m.cell (by rw [hW]; simp), m.cell (by rw [hW]; simp)⟩)
  have HP := Lib.hid (hpw.bl bW)
  have HI := Lib.hid (fun n w' (h0 : 0 ≤ n) (h1 : n ≤ 9999) (m : Bl W w') => (itoa_any n w' h0 (by omega) (PowAt.bl HP.out m)).mono fun e w'' (h : _ ∧ Gr w' w'') => (⟨h.1, h.2.bl⟩ : e = .returned (.string (bs (numT n))) ∧ Bl w' w''))
  have HI1 := Lib.hid (fun w' (m : Bl W w') => HI.out p.frm w' f0 f1 m)
  have HI2 := Lib.hid (fun w' (m : Bl W w') => HI.out p.to w' t0 t1 m)
  obtain ⟨k0, k1, k2, k3⟩ := KK.out _ (Bl.refl _)
  have s1 : (bs (numT p.frm)).size ≤ 4 := by rw [bs_size]; exact numT_len f1
  have s2 : (bs (numT p.to)).size ≤ 4 := by rw [bs_size]; exact numT_len t1
  have hn1 := hn6 (by omega)
  have hlx : 0 < p.args.length := by omega
  obtain ⟨bx, offx, svx, hox, ⟨x0, x1, x2, x3⟩, hsx⟩ := hsv.at 0 hlx
  obtain ⟨ox, capx, hvx, _⟩ := hsx.form
  have hgx := hg.arg _ (List.getElem_mem hlx)
  obtain ⟨ax, hax⟩ : ∃ a, a = p.args[0]'hlx := ⟨_, rfl⟩
  rw [← hax] at x0 x1 x2 hsx hvx hgx
  subst hvx
  have s3 : (bs (innT (txt d) ax)).size ≤ 12802 := by rw [bs_size]; have := innT_len (txt d) ax; have := txt_le hgx; omega
  have HIN := Lib.hid (fun w' (m : Bl w w') => inner_any d ih ax (.slice ox ax.args.length capx) w' hgx (hsx.bl m) (hpw.bl m))
  have R1 : ∀ w, (Op.stringOp .add ⟨#[101, 118, 101, 110, 32]⟩ (bs (innT (txt d) ax))).run Tryd.prog w = .ok (.string (⟨#[101, 118, 101, 110, 32]⟩ ++ (bs (innT (txt d) ax)))) w := fun w => run_string_add_sum w _ _ (by show 5 + _ ≤ _; omega)
  have e : Hid (bs (txt (d + 1) p) = ⟨#[101, 118, 101, 110, 32]⟩ ++ bs (innT (txt d) ax)) := by
    show _ = _
    rw [txt, if_neg (by omega), if_neg (by omega), if_neg (by omega), if_neg (by omega), if_neg (by omega), join_one1 [] hn1, argT_0of _ _ (by omega), ← hax, hk, ← bs_app]; rfl
  have HX := Lib.hid (fun w' (m : Bl w w') => (⟨m.cell x0, m.cell x1, m.cell x2, m.cell x3⟩ : _ ∧ _ ∧ _ ∧ _))
  simp only [Nat.zero_mul, Nat.add_zero] at HX
  obtain ⟨J, hJ⟩ : ∃ J, bs (innT (txt d) ax) = J := ⟨_, rfl⟩
  rw [hJ] at HIN e s3 R1
  subst hox
  have z1 : (0 : Int) < (p.args.length : Int) := by omega
  clear hg hsv hpw hn4 hn45 hn5 hn6 HI hk x0 x1 x2 x3 hsx hgx hax hJ ih hn1
  obtain ⟨X, hX⟩ : ∃ X, bs (txt (d + 1) p) = X := ⟨_, rfl⟩
  rw [hX] at e ⊢
  clear hX
  generalize p.frm = f at *
  generalize p.to = t at *
  go_enter Tryd.func30, Tryd.ntmps30
  go_wp2_with fail
  rw [← hW]
  clear hW
  refine (HI1.out _ (Bl.refl _)).mono ?_
  rintro e1 w1 ⟨rfl, b1⟩
  clear k0 k1 k2 k3
  obtain ⟨k0, k1, k2, k3⟩ := KK.out _ b1
  obtain ⟨x0, x1, x2, x3⟩ := HX.out _ (bW.trans b1)
  go_wp2_with fail
  refine (HIN.out _ (bW.trans b1)).mono ?_
  rintro e1 w2 ⟨rfl, b2⟩
  go_wp2_with fail
  go_returns
  exact ⟨by rw [e.out]; rfl, bW.trans (b1.trans b2)⟩

set_option maxRecDepth 100000 in
set_option maxHeartbeats 6400000 in
theorem text_8 (d : Nat) (ih : TextOk d) (p : Pk) (sv : Value) (w : World) (hk : p.kind = 8) (hg : Good (d + 1) p) (hsv : PkV w sv p.args) (hpw : PowAt w) :
    Calls Tryd.prog 30 #[.agg #[.int .i64 8, .int .i64 p.frm, .int .i64 p.to, sv]] w fun e w' => e = .returned (.string (bs (txt (d + 1) p))) ∧ Bl w w' := by
  obtain ⟨o, cap, rfl, hm, hcap⟩ := hsv.form
  obtain ⟨_, ⟨f0, f1⟩, ⟨t0, t1⟩, hn4, hn45, hn5, hn6⟩ := ck1_ok hg.own
  obtain ⟨W, hW⟩ : ∃ W, W = w.alloc (.cells #[.int .i64 8, .int .i64 p.frm, .int .i64 p.to, .slice o p.args.length cap] 24) := ⟨_, rfl⟩
  have bW : Bl w W := by rw [hW]; exact (Bl.refl w).alloc _
  have KK := Lib.hid (fun w' (m : Bl W w') => show w'.cell? ⟨w.heap.size, 0, none⟩ = some (.int .i64 8) ∧ w'.cell? ⟨w.heap.size, 1, none⟩ = some (.int .i64 p.frm) ∧ w'.cell? ⟨w.heap.size, 2, none⟩ = some (.int .i64 p.to) ∧ w'.cell? ⟨w.heap.size, 3, none⟩ = some (.slice o p.args.length cap) from ⟨m.cell (by rw [hW]; simp), m.cell (by rw [hW]; simp), m.cell (by rw [hW]; simp), m.cell (by rw [hW]; simp)⟩)
  have HP := Lib.hid (hpw.bl bW)
  have HI := Lib.hid (fun n w' (h0 : 0 ≤ n) (h1 : n ≤ 9999) (m : Bl W w') => (itoa_any n w' h0 (by omega) (PowAt.bl HP.out m)).mono fun e w'' (h : _ ∧ Gr w' w'') => (⟨h.1, h.2.bl⟩ : e = .returned (.string (bs (numT n))) ∧ Bl w' w''))
  have HI1 := Lib.hid (fun w' (m : Bl W w') => HI.out p.frm w' f0 f1 m)
  have HI2 := Lib.hid (fun w' (m : Bl W w') => HI.out p.to w' t0 t1 m)
  obtain ⟨k0, k1, k2, k3⟩ := KK.out _ (Bl.refl _)
  have s1 : (bs (numT p.frm)).size ≤ 4 := by rw [bs_size]; exact numT_len f1
  have s2 : (bs (numT p.to)).size ≤ 4 := by rw [bs_size]; exact numT_len t1
  have hn1 := hn6 (by omega)
  have hlx : 0 < p.args.length := by omega
  obtain ⟨bx, offx, svx, hox, ⟨x0, x1, x2, x3⟩, hsx⟩ := hsv.at 0 hlx
  obtain ⟨ox, capx, hvx, _⟩ := hsx.form
  have hgx := hg.arg _ (List.getElem_mem hlx)
  obtain ⟨ax, hax⟩ : ∃ a, a = p.args[0]'hlx := ⟨_, rfl⟩
  rw [← hax] at x0 x1 x2 hsx hvx hgx
  subst hvx
  have s3 : (bs (innT (txt d) ax)).size ≤ 12802 := by rw [bs_size]; have := innT_len (txt d) ax; have := txt_le hgx; omega
  have HIN := Lib.hid (fun w' (m : Bl w w') => inner_any d ih ax (.slice ox ax.args.length capx) w' hgx (hsx.bl m) (hpw.bl m))
  have R1 : ∀ w, (Op.stringOp .add ⟨#[98, 97, 99, 107, 32]⟩ (bs (innT (txt d) ax))).run Tryd.prog w = .ok (.string (⟨#[98, 97, 99, 107, 32]⟩ ++ (bs (innT (txt d) ax)))) w := fun w => run_string_add_sum w _ _ (by show 5 + _ ≤ _; omega)
  have e : Hid (bs (txt (d + 1) p) = ⟨#[98, 97, 99, 107, 32]⟩ ++ bs (innT (txt d) ax)) := by
    show _ = _
    rw [txt, if_neg (by omega), if_neg (by omega), if_neg (by omega), if_neg (by omega), if_neg (by omega), join_one1 [] hn1, argT_0of _ _ (by omega), ← hax, hk, ← bs_app]; rfl
  have HX := Lib.hid (fun w' (m : Bl w w') => (⟨m.cell x0, m.cell x1, m.cell x2, m.cell x3⟩ : _ ∧ _ ∧ _ ∧ _))
  simp only [Nat.zero_mul, Nat.add_zero] at HX
  obtain ⟨J, hJ⟩ : ∃ J, bs (innT (txt d) ax) = J := ⟨_, rfl⟩
  rw [hJ] at HIN e s3 R1
  subst hox
  have z1 : (0 : Int) < (p.args.length : Int) := by omega
  clear hg hsv hpw hn4 hn45 hn5 hn6 HI hk x0 x1 x2 x3 hsx hgx hax hJ ih hn1
  obtain ⟨X, hX⟩ : ∃ X, bs (txt (d + 1) p) = X := ⟨_, rfl⟩
  rw [hX] at e ⊢
  clear hX
  generalize p.frm = f at *
  generalize p.to = t at *
  go_enter Tryd.func30, Tryd.ntmps30
  go_wp2_with fail
  rw [← hW]
  clear hW
  refine (HI1.out _ (Bl.refl _)).mono ?_
  rintro e1 w1 ⟨rfl, b1⟩
  clear k0 k1 k2 k3
  obtain ⟨k0, k1, k2, k3⟩ := KK.out _ b1
  obtain ⟨x0, x1, x2, x3⟩ := HX.out _ (bW.trans b1)
  go_wp2_with fail
  refine (HIN.out _ (bW.trans b1)).mono ?_
  rintro e1 w2 ⟨rfl, b2⟩
  go_wp2_with fail
  go_returns
  exact ⟨by rw [e.out]; rfl, bW.trans (b1.trans b2)⟩

set_option maxRecDepth 100000 in
set_option maxHeartbeats 6400000 in
theorem text_9 (d : Nat) (ih : TextOk d) (p : Pk) (sv : Value) (w : World) (hk : p.kind = 9) (hg : Good (d + 1) p) (hsv : PkV w sv p.args) (hpw : PowAt w) :
    Calls Tryd.prog 30 #[.agg #[.int .i64 9, .int .i64 p.frm, .int .i64 p.to, sv]] w fun e w' => e = .returned (.string (bs (txt (d + 1) p))) ∧ Bl w w' := by
  obtain ⟨o, cap, rfl, hm, hcap⟩ := hsv.form
  obtain ⟨_, ⟨f0, f1⟩, ⟨t0, t1⟩, hn4, hn45, hn5, hn6⟩ := ck1_ok hg.own
  obtain ⟨W, hW⟩ : ∃ W, W = w.alloc (.cells #[.int .i64 9, .int .i64 p.frm, .int .i64 p.to, .slice o p.args.length cap] 24) := ⟨_, rfl⟩
  have bW : Bl w W := by rw [hW]; exact (Bl.refl w).alloc _
  have KK := Lib.hid (fun w' (m : Bl W w') => show w'.cell? ⟨w.heap.size, 0, none⟩ = some (.int .i64 9) ∧ w'.cell? ⟨w.heap.size, 1, none⟩ = some (.int .i64 p.frm) ∧ w'.cell? ⟨w.heap.size, 2, none⟩ = some (.int .i64 p.to) ∧ w'.cell? ⟨w.heap.size, 3, none⟩ = some (.slice o p.args.length cap) from ⟨m.cell (by rw [hW]; simp), m.cell (by rw [hW]; simp), m.cell (by rw [hW]; simp), m.cell (by rw [hW]; simp)⟩)
  have HP := Lib.hid (hpw.bl bW)
  have HI := Lib.hid (fun n w' (h0 : 0 ≤ n) (h1 : n ≤ 9999) (m : Bl W w') => (itoa_any n w' h0 (by omega) (PowAt.bl HP.out m)).mono fun e w'' (h : _ ∧ Gr w' w'') => (⟨h.1, h.2.bl⟩ : e = .returned (.string (bs (numT n))) ∧ Bl w' w''))
  have HI1 := Lib.hid (fun w' (m : Bl W w') => HI.out p.frm w' f0 f1 m)
  have HI2 := Lib.hid (fun w' (m : Bl W w') => HI.out p.to w' t0 t1 m)
  obtain ⟨k0, k1, k2, k3⟩ := KK.out _ (Bl.refl _)
  have s1 : (bs (numT p.frm)).size ≤ 4 := by rw [bs_size]; exact numT_len f1
  have s2 : (bs (numT p.to)).size ≤ 4 := by rw [bs_size]; exact numT_len t1
  have hn1 := hn6 (by omega)
  have hlx : 0 < p.args.length := by omega
  obtain ⟨bx, offx, svx, hox, ⟨x0, x1, x2, x3⟩, hsx⟩ := hsv.at 0 hlx
  obtain ⟨ox, capx, hvx, _⟩ := hsx.form
  have hgx := hg.arg _ (List.getElem_mem hlx)
  obtain ⟨ax, hax⟩ : ∃ a, a = p.args[0]'hlx := ⟨_, rfl⟩
  rw [← hax] at x0 x1 x2 hsx hvx hgx
  subst hvx
  have s3 : (bs (innT (txt d) ax)).size ≤ 12802 := by rw [bs_size]; have := innT_len (txt d) ax; have := txt_le hgx; omega
  have HIN := Lib.hid (fun w' (m : Bl w w') => inner_any d ih ax (.slice ox ax.args.length capx) w' hgx (hsx.bl m) (hpw.bl m))
  obtain ⟨J, hJ⟩ : ∃ J, bs (innT (txt d) ax) = J := ⟨_, rfl⟩
  rw [hJ] at HIN s3
  have R1 : ∀ w, (Op.stringOp .add ⟨#[101, 118, 101, 114, 121, 32]⟩ (bs (numT p.frm))).run Tryd.prog w = .ok (.string (⟨#[101, 118, 101, 114, 121, 32]⟩ ++ (bs (numT p.frm)))) w := fun w => run_string_add_sum w _ _ (by show 6 + _ ≤ _; omega)
  have z2 : ((⟨#[101, 118, 101, 114, 121, 32]⟩ ++ (bs (numT p.frm))) : ByteArray).size ≤ 10 := by rw [ByteArray.size_append]; show 6 + _ ≤ _; omega
  have R2 : ∀ w, (Op.stringOp .add (⟨#[101, 118, 101, 114, 121, 32]⟩ ++ (bs (numT p.frm))) ⟨#[32, 102, 114, 111, 109, 32]⟩).run Tryd.prog w = .ok (.string ((⟨#[101, 118, 101, 114, 121, 32]⟩ ++ (bs (numT p.frm))) ++ ⟨#[32, 102, 114, 111, 109, 32]⟩)) w := fun w => run_string_add_sum w _ _ (by show _ + 6 ≤ _; omega)
  have z3 : (((⟨#[101, 118, 101, 114, 121, 32]⟩ ++ (bs (numT p.frm))) ++ ⟨#[32, 102, 114, 111, 109, 32]⟩) : ByteArray).size ≤ 16 := by rw [ByteArray.size_append]; show _ + 6 ≤ _; omega
  have R3 : ∀ w, (Op.stringOp .add ((⟨#[101, 118, 101, 114, 121, 32]⟩ ++ (bs (numT p.frm))) ++ ⟨#[32, 102, 114, 111, 109, 32]⟩) (bs (numT p.to))).run Tryd.prog w = .ok (.string (((⟨#[101, 118, 101, 114, 121, 32]⟩ ++ (bs (numT p.frm))) ++ ⟨#[32, 102, 114, 111, 109, 32]⟩) ++ (bs (numT p.to)))) w := fun w => run_string_add_sum w _ _ (by omega)
  have z4 : ((((⟨#[101, 118, 101, 114, 121, 32]⟩ ++ (bs (numT p.frm))) ++ ⟨#[32, 102, 114, 111, 109, 32]⟩) ++ (bs (numT p.to))) : ByteArray).size ≤ 20 := by rw [ByteArray.size_append]; omega
  have R4 : ∀ w, (Op.stringOp .add (((⟨#[101, 118, 101, 114, 121, 32]⟩ ++ (bs (numT p.frm))) ++ ⟨#[32, 102, 114, 111, 109, 32]⟩) ++ (bs (numT p.to))) ⟨#[32]⟩).run Tryd.prog w = .ok (.string ((((⟨#[101, 118, 101, 114, 121, 32]⟩ ++ (bs (numT p.frm))) ++ ⟨#[32, 102, 114, 111, 109, 32]⟩) ++ (bs (numT p.to))) ++ ⟨#[32]⟩)) w := fun w => run_string_add_sum w _ _ (by show _ + 1 ≤ _; omega)
  have z5 : (((((⟨#[101, 118, 101, 114, 121, 32]⟩ ++ (bs (numT p.frm))) ++ ⟨#[32, 102, 114, 111, 109, 32]⟩) ++ (bs (numT p.to))) ++ ⟨#[32]⟩) : ByteArray).size ≤ 21 := by rw [ByteArray.size_append]; show _ + 1 ≤ _; omega
  have R5 : ∀ w, (Op.stringOp .add ((((⟨#[101, 118, 101, 114, 121, 32]⟩ ++ (bs (numT p.frm))) ++ ⟨#[32, 102, 114, 111, 109, 32]⟩) ++ (bs (numT p.to))) ++ ⟨#[32]⟩) J).run Tryd.prog w = .ok (.string (((((⟨#[101, 118, 101, 114, 121, 32]⟩ ++ (bs (numT p.frm))) ++ ⟨#[32, 102, 114, 111, 109, 32]⟩) ++ (bs (numT p.to))) ++ ⟨#[32]⟩) ++ J)) w := fun w => run_string_add_sum w _ _ (by omega)
  have e : Hid (bs (txt (d + 1) p) = ((((⟨#[101, 118, 101, 114, 121, 32]⟩ ++ (bs (numT p.frm))) ++ ⟨#[32, 102, 114, 111, 109, 32]⟩) ++ (bs (numT p.to))) ++ ⟨#[32]⟩) ++ J) := by
    show _ = _
    rw [txt, if_neg (by omega), if_neg (by omega), if_neg (by omega), if_neg (by omega), if_pos hk, join_one1 [] hn1, argT_0of _ _ (by omega), ← hax, ← hJ, ← bs_app, ← bs_app, ← bs_app, ← bs_app, ← bs_app]; rfl
  have HX := Lib.hid (fun w' (m : Bl w w') => (⟨m.cell x0, m.cell x1, m.cell x2, m.cell x3⟩ : _ ∧ _ ∧ _ ∧ _))
  simp only [Nat.zero_mul, Nat.add_zero] at HX
  subst hox
  have z1 : (0 : Int) < (p.args.length : Int) := by omega
  clear hg hsv hpw hn4 hn45 hn5 hn6 HI hk x0 x1 x2 x3 hsx hgx hax hJ ih hn1
  obtain ⟨X, hX⟩ : ∃ X, bs (txt (d + 1) p) = X := ⟨_, rfl⟩
  rw [hX] at e ⊢
  clear hX
  generalize p.frm = f at *
  generalize p.to = t at *
  go_enter Tryd.func30, Tryd.ntmps30
  go_wp2_with fail
  rw [← hW]
  clear hW
  refine (HI1.out _ (Bl.refl _)).mono ?_
  rintro e1 w1 ⟨rfl, b1⟩
  clear k0 k1 k2 k3
  obtain ⟨k0, k1, k2, k3⟩ := KK.out _ b1
  obtain ⟨x0, x1, x2, x3⟩ := HX.out _ (bW.trans b1)
  have cx0 := x0
  have cx1 := x1
  have cx2 := x2
  have cx3 := x3
  have ck2 := k2
  have ck3 := k3
  have HB1 := Lib.hid b1
  clear b1
  go_wp2_with fail
  go_region_held3 (fun w' => w'.cell? ⟨w.heap.size, 2, none⟩ = some (.int .i64 t) ∧ w'.cell? ⟨w.heap.size, 3, none⟩ = some (.slice (some ⟨bx, offx, none⟩) p.args.length cap) ∧ w'.cell? ⟨bx, offx, none⟩ = some (.int .i64 ax.kind) ∧ w'.cell? ⟨bx, offx + 1, none⟩ = some (.int .i64 ax.frm) ∧ w'.cell? ⟨bx, offx + 2, none⟩ = some (.int .i64 ax.to) ∧ w'.cell? ⟨bx, offx + 3, none⟩ = some (.slice ox ax.args.length capx))
    (refine ⟨Bl.cell (w := w1) ?_ ck2, Bl.cell (w := w1) ?_ ck3, Bl.cell (w := w1) ?_ cx0, Bl.cell (w := w1) ?_ cx1, Bl.cell (w := w1) ?_ cx2, Bl.cell (w := w1) ?_ cx3⟩ <;> ((repeat (first | with_reducible exact Bl.refl _ | with_reducible assumption | with_reducible refine Bl.drew ?_ | with_reducible refine Bl.alloc ?_ _ | with_reducible refine Bl.trans ?_ (by assumption))); done))
    (first
      | (go_at_call 68; (with_reducible refine (HI2.out _ (HB1.out.trans (by ((repeat (first | with_reducible exact Bl.refl _ | with_reducible assumption | with_reducible refine Bl.drew ?_ | with_reducible refine Bl.alloc ?_ _ | with_reducible refine Bl.trans ?_ (by assumption))); done)))).mono ?_); rintro e' w7 ⟨rfl, m7⟩)
      | (go_at_call 70; (with_reducible refine (HIN.out _ (bW.trans (HB1.out.trans (by ((repeat (first | with_reducible exact Bl.refl _ | with_reducible assumption | with_reducible refine Bl.drew ?_ | with_reducible refine Bl.alloc ?_ _ | with_reducible refine Bl.trans ?_ (by assumption))); done))))).mono ?_); rintro e' w8 ⟨rfl, m8⟩))
  go_wp2_with fail
  go_returns
  exact ⟨by rw [e.out]; rfl, bW.trans (HB1.out.trans (by ((repeat (first | with_reducible exact Bl.refl _ | with_reducible assumption | with_reducible refine Bl.drew ?_ | with_reducible refine Bl.alloc ?_ _ | with_reducible refine Bl.trans ?_ (by assumption))); done)))⟩

set_option maxRecDepth 100000 in
set_option maxHeartbeats 6400000 in
theorem text_5 (d : Nat) (ih : TextOk d) (p : Pk) (sv : Value) (w : World) (hk : p.kind = 5) (hg : Good (d + 1) p) (hsv : PkV w sv p.args) (hpw : PowAt w) :
    Calls Tryd.prog 30 #[.agg #[.int .i64 5, .int .i64 p.frm, .int .i64 p.to, sv]] w fun e w' => e = .returned (.string (bs (txt (d + 1) p))) ∧ Bl w w' := by
  obtain ⟨o, cap, rfl, hm, hcap⟩ := hsv.form
  obtain ⟨_, ⟨f0, f1⟩, ⟨t0, t1⟩, hn4, hn45, hn5, hn6⟩ := ck1_ok hg.own
  obtain ⟨W, hW⟩ : ∃ W, W = w.alloc (.cells #[.int .i64 5, .int .i64 p.frm, .int .i64 p.to, .slice o p.args.length cap] 24) := ⟨_, rfl⟩
  have bW : Bl w W := by rw [hW]; exact (Bl.refl w).alloc _
  have KK := Lib.hid (fun w' (m : Bl W w') => show w'.cell? ⟨w.heap.size, 0, none⟩ = some (.int .i64 5) ∧ w'.cell? ⟨w.heap.size, 1, none⟩ = some (.int .i64 p.frm) ∧ w'.cell? ⟨w.heap.size, 2, none⟩ = some (.int .i64 p.to) ∧ w'.cell? ⟨w.heap.size, 3, none⟩ = some (.slice o p.args.length cap) from ⟨m.cell (by rw [hW]; simp), m.cell (by rw [hW]; simp), m.cell (by rw [hW]; simp), m.cell (by rw [hW]; simp)⟩)
  have HP := Lib.hid (hpw.bl bW)
  have HI := Lib.hid (fun n w' (h0 : 0 ≤ n) (h1 : n ≤ 9999) (m : Bl W w') => (itoa_any n w' h0 (by omega) (PowAt.bl HP.out m)).mono fun e w'' (h : _ ∧ Gr w' w'') => (⟨h.1, h.2.bl⟩ : e = .returned (.string (bs (numT n))) ∧ Bl w' w''))
  have HI1 := Lib.hid (fun w' (m : Bl W w') => HI.out p.frm w' f0 f1 m)
  have HI2 := Lib.hid (fun w' (m : Bl W w') => HI.out p.to w' t0 t1 m)
  obtain ⟨k0, k1, k2, k3⟩ := KK.out _ (Bl.refl _)
  have s1 : (bs (numT p.frm)).size ≤ 4 := by rw [bs_size]; exact numT_len f1
  have s2 : (bs (numT p.to)).size ≤ 4 := by rw [bs_size]; exact numT_len t1
  have hn1 := hn5 (by omega)
  have hlx : 0 < p.args.length := by omega
  obtain ⟨bx, offx, svx, hox, ⟨x0, x1, x2, x3⟩, hsx⟩ := hsv.at 0 hlx
  obtain ⟨ox, capx, hvx, _⟩ := hsx.form
  have hgx := hg.arg _ (List.getElem_mem hlx)
  obtain ⟨ax, hax⟩ : ∃ a, a = p.args[0]'hlx := ⟨_, rfl⟩
  rw [← hax] at x0 x1 x2 hsx hvx hgx
  subst hvx
  have hlu : 1 < p.args.length := by omega
  obtain ⟨bu, offu, svu, hou, ⟨u0, u1, u2, u3⟩, hsu⟩ := hsv.at 1 hlu
  obtain ⟨ou, capu, hvu, _⟩ := hsu.form
  have hgu := hg.arg _ (List.getElem_mem hlu)
  obtain ⟨au, hau⟩ : ∃ a, a = p.args[1]'hlu := ⟨_, rfl⟩
  rw [← hau] at u0 u1 u2 hsu hvu hgu
  subst hvu
  have s3 : (bs (txt d ax)).size ≤ 12800 := by rw [bs_size]; exact txt_le hgx
  have s4 : (bs (innT (txt d) au)).size ≤ 12802 := by rw [bs_size]; have := innT_len (txt d) au; have := txt_le hgu; omega
  have HTX := Lib.hid (fun w' (m : Bl w w') => ih ax (.slice ox ax.args.length capx) w' hgx (hsx.bl m) (hpw.bl m))
  have HIN := Lib.hid (fun w' (m : Bl w w') => inner_any d ih au (.slice ou au.args.length capu) w' hgu (hsu.bl m) (hpw.bl m))
  obtain ⟨I, hI⟩ : ∃ I, bs (txt d ax) = I := ⟨_, rfl⟩
  obtain ⟨J, hJ⟩ : ∃ J, bs (innT (txt d) au) = J := ⟨_, rfl⟩
  rw [hI] at HTX s3
  rw [hJ] at HIN s4
  have R1 : ∀ w, (Op.stringOp .add I ⟨#[32, 45, 32]⟩).run Tryd.prog w = .ok (.string (I ++ ⟨#[32, 45, 32]⟩)) w := fun w => run_string_add_sum w _ _ (by show _ + 3 ≤ _; omega)
  have R2 : ∀ w, (Op.stringOp .add (I ++ ⟨#[32, 45, 32]⟩) J).run Tryd.prog w = .ok (.string ((I ++ ⟨#[32, 45, 32]⟩) ++ J)) w := fun w => run_string_add_sum w _ _ (by rw [ByteArray.size_append]; show _ + 3 + _ ≤ _; omega)
  have e : Hid (bs (txt (d + 1) p) = I ++ ⟨#[32, 45, 32]⟩ ++ J) := by
    show _ = _
    rw [txt, if_neg (by omega), if_neg (by omega), if_neg (by omega), if_pos hk, hk, join_two [32, 45, 32] hn1, argT_0of5, argT_succ, ← hax, ← hau, ← hI, ← hJ, ← bs_app, ← bs_app]; rfl
  subst hox
  cases hou
  have HX := Lib.hid (fun w' (m : Bl w w') => (⟨m.cell x0, m.cell x1, m.cell x2, m.cell x3⟩ : _ ∧ _ ∧ _ ∧ _))
  have HY := Lib.hid (fun w' (m : Bl w w') => (⟨m.cell u0, m.cell u1, m.cell u2, m.cell u3⟩ : _ ∧ _ ∧ _ ∧ _))
  simp only [Nat.zero_mul, Nat.add_zero] at HX
  simp only [Nat.one_mul] at HY
  have z1 : (0 : Int) < (p.args.length : Int) := by omega
  have z2 : (1 : Int) < (p.args.length : Int) := by omega
  clear hg hsv hpw hn4 hn45 hn5 hn6 HI hk x0 x1 x2 x3 hsx hgx hax hJ u0 u1 u2 u3 hsu hgu hau hI ih hn1
  obtain ⟨X, hX⟩ : ∃ X, bs (txt (d + 1) p) = X := ⟨_, rfl⟩
  rw [hX] at e ⊢
  clear hX
  generalize p.frm = f at *
  generalize p.to = t at *
  go_enter Tryd.func30, Tryd.ntmps30
  go_wp2_with fail
  rw [← hW]
  clear hW
  refine (HI1.out _ (Bl.refl _)).mono ?_
  rintro e1 w1 ⟨rfl, b1⟩
  clear k0 k1 k2 k3
  obtain ⟨k0, k1, k2, k3⟩ := KK.out _ b1
  obtain ⟨x0, x1, x2, x3⟩ := HX.out _ (bW.trans b1)
  obtain ⟨u0, u1, u2, u3⟩ := HY.out _ (bW.trans b1)
  have z1 : (0 : Int) < (p.args.length : Int) := by omega
  have z2 : (1 : Int) < (p.args.length : Int) := by omega
  have cx0 := x0
  have cx1 := x1
  have cx2 := x2
  have cx3 := x3
  have cu0 := u0
  have cu1 := u1
  have cu2 := u2
  have cu3 := u3
  have ck3 := k3
  have HB1 := Lib.hid b1
  clear b1
  go_wp2_with fail
  go_region_held3 (fun w' => w'.cell? ⟨w.heap.size, 3, none⟩ = some (.slice (some ⟨bx, offx, none⟩) p.args.length cap) ∧ w'.cell? ⟨bx, offx, none⟩ = some (.int .i64 ax.kind) ∧ w'.cell? ⟨bx, offx + 1, none⟩ = some (.int .i64 ax.frm) ∧ w'.cell? ⟨bx, offx + 2, none⟩ = some (.int .i64 ax.to) ∧ w'.cell? ⟨bx, offx + 3, none⟩ = some (.slice ox ax.args.length capx) ∧ w'.cell? ⟨bx, offx + 4, none⟩ = some (.int .i64 au.kind) ∧ w'.cell? ⟨bx, offx + 4 + 1, none⟩ = some (.int .i64 au.frm) ∧ w'.cell? ⟨bx, offx + 4 + 2, none⟩ = some (.int .i64 au.to) ∧ w'.cell? ⟨bx, offx + 4 + 3, none⟩ = some (.slice ou au.args.length capu))
    (refine ⟨Bl.cell (w := w1) ?_ ck3, Bl.cell (w := w1) ?_ cx0, Bl.cell (w := w1) ?_ cx1, Bl.cell (w := w1) ?_ cx2, Bl.cell (w := w1) ?_ cx3, Bl.cell (w := w1) ?_ cu0, Bl.cell (w := w1) ?_ cu1, Bl.cell (w := w1) ?_ cu2, Bl.cell (w := w1) ?_ cu3⟩ <;> ((repeat (first | with_reducible exact Bl.refl _ | with_reducible assumption | with_reducible refine Bl.drew ?_ | with_reducible refine Bl.alloc ?_ _ | with_reducible refine Bl.trans ?_ (by assumption))); done))
    (first
      | (go_at_call 30; (with_reducible refine (HTX.out _ (bW.trans (HB1.out.trans (by ((repeat (first | with_reducible exact Bl.refl _ | with_reducible assumption | with_reducible refine Bl.drew ?_ | with_reducible refine Bl.alloc ?_ _ | with_reducible refine Bl.trans ?_ (by assumption))); done))))).mono ?_); rintro e' w7 ⟨rfl, m7⟩)
      | (go_at_call 70; (with_reducible refine (HIN.out _ (bW.trans (HB1.out.trans (by ((repeat (first | with_reducible exact Bl.refl _ | with_reducible assumption | with_reducible refine Bl.drew ?_ | with_reducible refine Bl.alloc ?_ _ | with_reducible refine Bl.trans ?_ (by assumption))); done))))).mono ?_); rintro e' w8 ⟨rfl, m8⟩))
  go_wp2_with fail
  go_returns
  exact ⟨by rw [e.out]; rfl, bW.trans (HB1.out.trans (by ((repeat (first | with_reducible exact Bl.refl _ | with_reducible assumption | with_reducible refine Bl.drew ?_ | with_reducible refine Bl.alloc ?_ _ | with_reducible refine Bl.trans ?_ (by assumption))); done)))⟩

end Go.Proofs.YtgpblgalklegkaaDoor
