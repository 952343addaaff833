/- text of the reference: rows of Args; all kinds. -/
import Derived.Test.YtgpblgalklegkaaDoorTxrK
namespace Go.Proofs.YtgpblgalklegkaaDoor
open Go.RowKit Go.Lib Go.Sort

def JoRel (W : World) (T : Pk → List UInt8) (l : List Pk) (v4 v56 : Value) (wr : World) : Prop := ∃ j : Nat, j + 1 ≤ l.length ∧ v56 = .int .i64 j ∧ v4 = .string (bs (preJ T 4 l [32, 43, 32] j)) ∧ Bl W wr

set_option maxRecDepth 100000 in
set_option maxHeartbeats 6400000 in
theorem text_4 (d : Nat) (ih : TextOk d) (p : Pk) (sv : Value) (w : World) (hk : p.kind = 4) (hg : Good (d + 1) p) (hsv : PkV w sv p.args) (hpw : PowAt w) :
    Calls Tryd.prog 30 #[.agg #[.int .i64 4, .int .i64 p.frm, .int .i64 p.to, sv]] w fun e w' => e = .returned (.string (bs (txt (d + 1) p))) ∧ Bl w w' := by
  obtain ⟨o, cap, rfl, hm, hcap⟩ := hsv.form
  obtain ⟨_, ⟨f0, f1⟩, ⟨t0, t1⟩, hn4, hn45, hn5, hn6⟩ := ck1_ok hg.own
  obtain ⟨W, hW⟩ : ∃ W, W = w.alloc (.cells #[.int .i64 4, .int .i64 p.frm, .int .i64 p.to, .slice o p.args.length cap] 24) := ⟨_, rfl⟩
  have bW : Bl w W := by rw [hW]; exact (Bl.refl w).alloc _
  have KK := Lib.hid (fun w' (m : Bl W w') => show w'.cell? ⟨w.heap.size, 0, none⟩ = some (.int .i64 4) ∧ w'.cell? ⟨w.heap.size, 1, none⟩ = some (.int .i64 p.frm) ∧ w'.cell? ⟨w.heap.size, 2, none⟩ = some (.int .i64 p.to) ∧ w'.cell? ⟨w.heap.size, 3, none⟩ = some (.slice o p.args.length cap) from ⟨m.cell (by rw [hW]; simp), m.cell (by rw [hW]; simp), m.cell (by rw [hW]; simp), m.cell (by rw [hW]; simp)⟩)
  have HP := Lib.hid (hpw.bl bW)
  have HI1 := Lib.hid (fun w' (m : Bl W w') => (itoa_any p.frm w' f0 (by omega) (PowAt.bl HP.out m)).mono fun e w'' (h : _ ∧ Gr w' w'') => (⟨h.1, h.2.bl⟩ : e = .returned (.string (bs (numT p.frm))) ∧ Bl w' w''))
  obtain ⟨k0, k1, k2, k3⟩ := KK.out _ (Bl.refl _)
  have hn2 := hn45 (Or.inl hk)
  have hlx : 0 < p.args.length := by omega
  obtain ⟨bx, offx, svx, hox, ⟨x0, x1, x2, x3⟩, hsx⟩ := hsv.at 0 hlx
  obtain ⟨ox, capx, hvx, _⟩ := hsx.form
  have hgx := hg.arg _ (List.getElem_mem hlx)
  have hp0 := preJ_zero (T := txt d) (k := 4) (sep := [32, 43, 32]) hlx
  obtain ⟨ax, hax⟩ : ∃ a, a = p.args[0]'hlx := ⟨_, rfl⟩
  rw [← hax] at x0 x1 x2 hsx hvx hgx hp0
  subst hvx hox
  rw [argT_0of4] at hp0
  have HIN := Lib.hid (fun w' (m : Bl w w') => inner_any d ih ax (.slice ox ax.args.length capx) w' hgx (hsx.bl m) (hpw.bl m))
  have HTX := Lib.hid (fun w' (m : Bl w w') => ih ax (.slice ox ax.args.length capx) w' hgx (hsx.bl m) (hpw.bl m))
  have HX := Lib.hid (fun w' (m : Bl w w') => (⟨m.cell x0, m.cell x1, m.cell x2, m.cell x3⟩ : _ ∧ _ ∧ _ ∧ _))
  simp only [Nat.zero_mul, Nat.add_zero] at HX
  have e : Hid (bs (txt (d + 1) p) = bs (join (argsT (txt d) 4 p.args) [32, 43, 32])) := by
    show _ = _
    rw [txt, if_neg (by omega), if_neg (by omega), if_pos hk, hk]
  have HS := Lib.hid hsv
  have HG := Lib.hid hg
  have HPW := Lib.hid hpw
  have IH := Lib.hid ih
  have z1 : (0 : Int) < (p.args.length : Int) := by omega
  have z2 : (1 : Int) ≤ (p.args.length : Int) := by omega
  have z3 : 1 ≤ p.args.length := by omega
  have z4 : (p.args.length : Int) ≤ (cap : Int) := by omega
  clear hg hsv hpw hn4 hn45 hn5 hn6 ih x0 x1 x2 x3 hsx hgx hax hk
  obtain ⟨X, hX⟩ : ∃ X, bs (txt (d + 1) p) = X := ⟨_, rfl⟩
  rw [hX] at e ⊢
  clear hX
  generalize p.frm = f at *
  generalize p.to = t at *
  by_cases h5 : ax.kind = 5
  · rw [if_pos h5] at hp0
    have t5 : (ax.kind == 5) = true := by simpa using h5
    have HP0 := Lib.hid hp0
    clear hp0 h5
    go_enter Tryd.func30, Tryd.ntmps30
    go_wp2_with fail
    rw [← hW]
    clear hW
    refine (HI1.out _ (Bl.refl _)).mono ?_
    rintro e1 w1 ⟨rfl, b1⟩
    clear k0 k1 k2 k3
    obtain ⟨k0, k1, k2, k3⟩ := KK.out _ b1
    obtain ⟨x0, x1, x2, x3⟩ := HX.out _ (bW.trans b1)
    go_wp2_with fail
    refine (HIN.out _ (bW.trans b1)).mono ?_
    rintro e1 w2 ⟨rfl, b2⟩
    clear k0 k1 k2 k3 x0 x1 x2 x3
    obtain ⟨k0, k1, k2, k3⟩ := KK.out _ (b1.trans b2)
    obtain ⟨x0, x1, x2, x3⟩ := HX.out _ (bW.trans (b1.trans b2))
    go_wp2_with fail
    refine (HTX.out _ (bW.trans (b1.trans b2))).mono ?_
    rintro e1 w3 ⟨rfl, b3⟩
    clear k0 k1 k2 k3 x0 x1 x2 x3
    obtain ⟨k0, k1, k2, k3⟩ := KK.out _ (b1.trans (b2.trans b3))
    have HB3 := Lib.hid (bW.trans (b1.trans (b2.trans b3)))
    rw [← HP0.out]
    clear HIN HTX HX HP0 t5 HI1 HP
    go_wp2_with fail
    all_goals first | (exfalso; omega) | skip
    clear k0 k1 k2 k3
    go_loopw [4, 56] (fun v4 v56 wr => JoRel w3 (txt d) p.args v4 v56 wr) (fun _ v56 _ => p.args.length - (intOf v56).toNat)
    case atStart => exact ⟨0, by omega, rfl, rfl, Bl.refl _⟩
    case round =>
      obtain ⟨j, hj, rfl, rfl, hb⟩ := hrel
      by_cases hlt : j + 1 < p.args.length
      · obtain ⟨b, off, sv, ho, ⟨c0, c1, c2, c3⟩, hsv⟩ := HS.out.at (j + 1) hlt
        cases ho
        have m0 := HB3.out.trans hb
        have c0 := m0.cell c0
        have c1 := m0.cell c1
        have c2 := m0.cell c2
        have c3 := m0.cell c3
        obtain ⟨o4, cap4, hsv4, hm4⟩ := hsv.form
        have hga := HG.out.arg _ (List.getElem_mem hlt)
        have hst := preJ_succ (T := txt d) (k := 4) (sep := [32, 43, 32]) hlt
        have hb1 := preJ_le HG.out 4 [32, 43, 32] (by decide) j
        obtain ⟨a, ha⟩ : ∃ a, a = p.args[j + 1] := ⟨_, rfl⟩
        rw [← ha] at c0 c1 c2 hsv hsv4 hm4 hga hst
        subst hsv4
        rw [show offx + (j + 1) * 4 = offx + 4 + j * 4 by omega] at c0 c1 c2 c3
        have hba := m0.alloc (.cells #[.int .i64 a.kind, .int .i64 a.frm, .int .i64 a.to, .slice o4 a.args.length cap4] 24)
        have HC := Lib.hid (inner_any d IH.out a _ _ hga (hsv.bl hba) (HPW.out.bl hba))
        have hb2 : (innT (txt d) a).length ≤ 12802 := by have := innT_len (txt d) a; have := txt_le hga; omega
        have hz1 : (bs (innT (txt d) a)).size ≤ 12802 := by rw [bs_size]; exact hb2
        have hz2 : (bs (preJ (txt d) 4 p.args [32, 43, 32] j)).size ≤ 12800 := by rw [bs_size]; exact hb1
        have HST : Hid (bs (preJ (txt d) 4 p.args [32, 43, 32] (j + 1)) = bs (preJ (txt d) 4 p.args [32, 43, 32] j) ++ (⟨#[32, 43, 32]⟩ ++ bs (innT (txt d) a))) := by
          show _ = _
          rw [hst, List.append_assoc, ← bs_app, ← bs_app]; rfl
        obtain ⟨N, hN⟩ : ∃ N, bs (preJ (txt d) 4 p.args [32, 43, 32] (j + 1)) = N := ⟨_, rfl⟩
        obtain ⟨I, hI⟩ : ∃ I, bs (innT (txt d) a) = I := ⟨_, rfl⟩
        obtain ⟨P, hP⟩ : ∃ P, bs (preJ (txt d) 4 p.args [32, 43, 32] j) = P := ⟨_, rfl⟩
        rw [hI] at HC hz1 HST
        rw [hP] at hz2 HST ⊢
        rw [hN] at HST
        have HNN := Lib.hid hN
        have R1 : ∀ w, (Op.stringOp .add ⟨#[32, 43, 32]⟩ I).run Tryd.prog w = .ok (.string (⟨#[32, 43, 32]⟩ ++ I)) w := fun w => run_string_add_sum w _ _ (by show 3 + _ ≤ _; omega)
        have R2 : ∀ w, (Op.stringOp .add P (⟨#[32, 43, 32]⟩ ++ I)).run Tryd.prog w = .ok (.string (P ++ (⟨#[32, 43, 32]⟩ ++ I))) w := fun w => run_string_add_sum w _ _ (by rw [ByteArray.size_append]; show _ + (3 + _) ≤ _; omega)
        have zj : (j : Int) < (p.args.length : Int) - 1 := by omega
        clear ha hsv hba hga hst hb1 hb2 hN hI hP
        go_wp2_with fail
        refine HC.out.mono ?_
        rintro e1 w4 ⟨rfl, b4⟩
        go_wp2_with fail
        go_roundw
        case rel => exact ⟨j + 1, by omega, by go_num, by rw [HNN.out, HST.out], (hb.alloc _).trans b4⟩
        case measure => simp [intOf]; omega
      · have hend := preJ_end (T := txt d) (k := 4) (l := p.args) (sep := [32, 43, 32]) (j := j) (by omega)
        have HE : Hid (bs (preJ (txt d) 4 p.args [32, 43, 32] j) = X) := by show _ = _; rw [hend, ← e.out]
        have zj : ¬ (j : Int) < (p.args.length : Int) - 1 := by omega
        clear hend
        go_wp2_with fail
        go_returns
        exact ⟨by rw [← HE.out]; rfl, HB3.out.trans hb⟩
  · rw [if_neg h5] at hp0
    have t5 : (ax.kind == 5) = false := by simpa using h5
    have HP0 := Lib.hid hp0
    clear hp0 h5
    go_enter Tryd.func30, Tryd.ntmps30
    go_wp2_with fail
    rw [← hW]
    clear hW
    refine (HI1.out _ (Bl.refl _)).mono ?_
    rintro e1 w1 ⟨rfl, b1⟩
    clear k0 k1 k2 k3
    obtain ⟨k0, k1, k2, k3⟩ := KK.out _ b1
    obtain ⟨x0, x1, x2, x3⟩ := HX.out _ (bW.trans b1)
    go_wp2_with fail
    refine (HIN.out _ (bW.trans b1)).mono ?_
    rintro e1 w3 ⟨rfl, b3⟩
    clear k0 k1 k2 k3 x0 x1 x2 x3
    obtain ⟨k0, k1, k2, k3⟩ := KK.out _ (b1.trans b3)
    obtain ⟨x0, x1, x2, x3⟩ := HX.out _ (bW.trans (b1.trans b3))
    have HB3 := Lib.hid (bW.trans (b1.trans b3))
    rw [← HP0.out]
    clear HIN HTX HX HP0 HI1 HP
    go_wp2_with fail
    all_goals first | (exfalso; omega) | skip
    clear k0 k1 k2 k3
    go_loopw [4, 56] (fun v4 v56 wr => JoRel w3 (txt d) p.args v4 v56 wr) (fun _ v56 _ => p.args.length - (intOf v56).toNat)
    case atStart => exact ⟨0, by omega, rfl, rfl, Bl.refl _⟩
    case round =>
      obtain ⟨j, hj, rfl, rfl, hb⟩ := hrel
      by_cases hlt : j + 1 < p.args.length
      · obtain ⟨b, off, sv, ho, ⟨c0, c1, c2, c3⟩, hsv⟩ := HS.out.at (j + 1) hlt
        cases ho
        have m0 := HB3.out.trans hb
        have c0 := m0.cell c0
        have c1 := m0.cell c1
        have c2 := m0.cell c2
        have c3 := m0.cell c3
        obtain ⟨o4, cap4, hsv4, hm4⟩ := hsv.form
        have hga := HG.out.arg _ (List.getElem_mem hlt)
        have hst := preJ_succ (T := txt d) (k := 4) (sep := [32, 43, 32]) hlt
        have hb1 := preJ_le HG.out 4 [32, 43, 32] (by decide) j
        obtain ⟨a, ha⟩ : ∃ a, a = p.args[j + 1] := ⟨_, rfl⟩
        rw [← ha] at c0 c1 c2 hsv hsv4 hm4 hga hst
        subst hsv4
        rw [show offx + (j + 1) * 4 = offx + 4 + j * 4 by omega] at c0 c1 c2 c3
        have hba := m0.alloc (.cells #[.int .i64 a.kind, .int .i64 a.frm, .int .i64 a.to, .slice o4 a.args.length cap4] 24)
        have HC := Lib.hid (inner_any d IH.out a _ _ hga (hsv.bl hba) (HPW.out.bl hba))
        have hb2 : (innT (txt d) a).length ≤ 12802 := by have := innT_len (txt d) a; have := txt_le hga; omega
        have hz1 : (bs (innT (txt d) a)).size ≤ 12802 := by rw [bs_size]; exact hb2
        have hz2 : (bs (preJ (txt d) 4 p.args [32, 43, 32] j)).size ≤ 12800 := by rw [bs_size]; exact hb1
        have HST : Hid (bs (preJ (txt d) 4 p.args [32, 43, 32] (j + 1)) = bs (preJ (txt d) 4 p.args [32, 43, 32] j) ++ (⟨#[32, 43, 32]⟩ ++ bs (innT (txt d) a))) := by
          show _ = _
          rw [hst, List.append_assoc, ← bs_app, ← bs_app]; rfl
        obtain ⟨N, hN⟩ : ∃ N, bs (preJ (txt d) 4 p.args [32, 43, 32] (j + 1)) = N := ⟨_, rfl⟩
        obtain ⟨I, hI⟩ : ∃ I, bs (innT (txt d) a) = I := ⟨_, rfl⟩
        obtain ⟨P, hP⟩ : ∃ P, bs (preJ (txt d) 4 p.args [32, 43, 32] j) = P := ⟨_, rfl⟩
        rw [hI] at HC hz1 HST
        rw [hP] at hz2 HST ⊢
        rw [hN] at HST
        have HNN := Lib.hid hN
        have R1 : ∀ w, (Op.stringOp .add ⟨#[32, 43, 32]⟩ I).run Tryd.prog w = .ok (.string (⟨#[32, 43, 32]⟩ ++ I)) w := fun w => run_string_add_sum w _ _ (by show 3 + _ ≤ _; omega)
        have R2 : ∀ w, (Op.stringOp .add P (⟨#[32, 43, 32]⟩ ++ I)).run Tryd.prog w = .ok (.string (P ++ (⟨#[32, 43, 32]⟩ ++ I))) w := fun w => run_string_add_sum w _ _ (by rw [ByteArray.size_append]; show _ + (3 + _) ≤ _; omega)
        have zj : (j : Int) < (p.args.length : Int) - 1 := by omega
        clear ha hsv hba hga hst hb1 hb2 hN hI hP
        go_wp2_with fail
        refine HC.out.mono ?_
        rintro e1 w4 ⟨rfl, b4⟩
        go_wp2_with fail
        go_roundw
        case rel => exact ⟨j + 1, by omega, by go_num, by rw [HNN.out, HST.out], (hb.alloc _).trans b4⟩
        case measure => simp [intOf]; omega
      · have hend := preJ_end (T := txt d) (k := 4) (l := p.args) (sep := [32, 43, 32]) (j := j) (by omega)
        have HE : Hid (bs (preJ (txt d) 4 p.args [32, 43, 32] j) = X) := by show _ = _; rw [hend, ← e.out]
        have zj : ¬ (j : Int) < (p.args.length : Int) - 1 := by omega
        clear hend
        go_wp2_with fail
        go_returns
        exact ⟨by rw [← HE.out]; rfl, HB3.out.trans hb⟩
theorem textOk : ∀ (d : Nat), TextOk d := by
  intro d
  induction d with
  | zero => intro p sv w h; cases h.1
  | succ d ih =>
    intro p sv w hg hsv hpw
    have h1 := (ck1_ok hg.own).1
    have key : p.kind = 1 ∨ p.kind = 2 ∨ p.kind = 3 ∨ p.kind = 4 ∨ p.kind = 5 ∨ p.kind = 6 ∨ p.kind = 7 ∨ p.kind = 8 ∨ p.kind = 9 := by omega
    rcases key with h | h | h | h | h | h | h | h | h
    · rw [h]; exact text_1 d ih p sv w h hg hsv hpw
    · rw [h]; exact text_2 d ih p sv w h hg hsv hpw
    · rw [h]; exact text_3 d ih p sv w h hg hsv hpw
    · rw [h]; exact text_4 d ih p sv w h hg hsv hpw
    · rw [h]; exact text_5 d ih p sv w h hg hsv hpw
    · rw [h]; exact text_6 d ih p sv w h hg hsv hpw
    · rw [h]; exact text_7 d ih p sv w h hg hsv hpw
    · rw [h]; exact text_8 d ih p sv w h hg hsv hpw
    · rw [h]; exact text_9 d ih p sv w h hg hsv hpw
end Go.Proofs.YtgpblgalklegkaaDoor
