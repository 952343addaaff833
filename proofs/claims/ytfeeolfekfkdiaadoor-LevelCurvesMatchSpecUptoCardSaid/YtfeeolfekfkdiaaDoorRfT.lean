/- The reference's words and CurveText. -/
import Derived.Test.YtfeeolfekfkdiaaDoorCvK
import Derived.Test.YtfeeolfekfkdiaaDoorRefC
namespace Go.Proofs.YtfeeolfekfkdiaaDoor
open Go.RowKit Go.Lib Go.Sort

def wR : List ByteArray := [⟨#[]⟩, bs (kw 1), bs (kw 2), bs (kw 3), bs (kw 4), bs (kw 5)]
theorem words_any (w : World) :
    Calls Tryd.prog 57 #[] w fun e w' => e = .returned (.slice (some ⟨w.heap.size, 0, none⟩) 6 6) ∧ Gr w w' ∧ ∀ j, j < 6 → w'.cell? ⟨w.heap.size, 0 + j, none⟩ = some (.string (wR.getD j ByteArray.empty)) := by
  go_enter Tryd.func57, Tryd.ntmps57
  go_wp2_with fail
  go_returns
  refine ⟨rfl, (Gr.refl w).alloc _, fun j hj => ?_⟩
  have : j = 0 ∨ j = 1 ∨ j = 2 ∨ j = 3 ∨ j = 4 ∨ j = 5 := by omega
  rcases this with rfl | rfl | rfl | rfl | rfl | rfl <;> (simp; rfl)
set_option maxRecDepth 100000 in
set_option maxHeartbeats 1600000 in
theorem curveTextR (k : Int) (sv : Value) (l : List (Int × Int)) (w : World) (h : PtsAny w sv l) (ht : TabIs Tryd.prog w "internal/strconv.uint64pow10" .u64 pow10Tab) :
    Calls Tryd.prog 24 #[.agg #[.int .i64 k, sv]] w fun e w' => e = ctR k l ∧ Bl w w' := by
  have HC := Lib.hid (fun w' (g : Bl w w') => checkCurve_ref k sv l w' (h.bl g))
  unfold PCk at HC
  by_cases hck : ckCurve k l = 0
  · have HR := Lib.hid (show ctR k l = .returned (.tuple #[.string (bs (cvText k l)), .int .i64 0]) by unfold ctR; rw [if_pos hck, hck])
    rw [hck] at HC
    have HJ := Lib.hid (fun (n : Int) (h0 : 0 ≤ n) (h1 : n ≤ 1000) w' (g : Bl w w') => itoa_any n w' h0 (by omega) (tab_bl ht g))
    obtain ⟨k1, k6⟩ := ck_kind hck
    by_cases h6 : k = 6
    · subst h6
      have hn : l.length ≠ 0 := by have := (ck_tab hck).two; omega
      have hT := ck_tab hck
      have hl20 := hT.most
      have hrange : ∀ i, i < l.length → (l[i]?.getD (0, 0)).1 ≤ 1000 ∧ (l[i]?.getD (0, 0)).2 ≤ 1000 := fun i hi => ⟨(hT.range i hi).2.1, (hT.range i hi).2.2.2⟩
      have HL := Lib.hid (fun n (hh : n ≤ l.length) => show (bs (preT 6 l n)).size ≤ 6 + 10 * n by rw [bs_size]; exact preT_len 6 l hrange n hh)
      have HS := Lib.hid (fun n (hh : n < l.length) => preT_succ 6 l n hh)
      have HA := Lib.hid (preT_all 6 l)
      have HZ := Lib.hid (preT_zero 6 l)
      obtain ⟨b, off, cap, hsv, hP⟩ : ∃ b off cap, sv = .slice (some ⟨b, off, none⟩) l.length cap ∧ Pts w b off l := by
        rcases h with ⟨o, cap, _, rfl⟩ | ⟨b, off, cap, rfl, hP, _⟩
        · exact absurd rfl hn
        · exact ⟨b, off, cap, rfl, hP⟩
      subst hsv
      have HP := Lib.hid hP
      have HG := Lib.hid hT.range
      clear h ht hck hn hT hrange hP
      go_enter Tryd.func24, Tryd.ntmps24
      go_wp2_with fail
      refine (HC.out _ ((Bl.refl w).alloc _)).mono ?_
      rintro e w1 ⟨rfl, g1⟩
      obtain ⟨c0, c1⟩ := box2 rfl g1
      have hb1 : Bl w w1 := ((Bl.refl w).alloc _).trans g1
      have HP1 := Lib.hid (HP.out.bl hb1)
      have hg1 : Gr w1 w1 := Gr.refl w1
      clear g1 HP
      go_wp2_with fail
      go_loopw [5, 24] (fun t i wr => ∃ n : Nat, n ≤ l.length ∧ i = .int .i64 n ∧ t = .string (bs (preT 6 l n)) ∧ Gr w1 wr) (fun _ i _ => l.length - (intOf i).toNat)
      case atStart => exact ⟨0, Nat.zero_le _, rfl, by rw [HZ.out]; rfl, hg1⟩
      case round =>
        obtain ⟨n, hn, rfl, rfl, hgr⟩ := hrel
        have hsz := HL.out n hn
        by_cases hlt : n < l.length
        · obtain ⟨p0, p1⟩ := HP1.out.gr hgr n hlt
          obtain ⟨r0, r1, r2, r3⟩ := HG.out n hlt
          have HN := Lib.hid (HS.out n hlt)
          generalize hpt : l[n]?.getD (0, 0) = pt at *
          obtain ⟨c, d⟩ := pt
          clear hpt
          have r0 : 0 ≤ c := r0
          have r1 : c ≤ 1000 := r1
          have r2 : 0 ≤ d := r2
          have r3 : d ≤ 1000 := r3
          have p0 : wr.cell? ⟨b, off + n * 2, none⟩ = some (.int .i64 c) := p0
          have p1 : wr.cell? ⟨b, off + n * 2 + 1, none⟩ = some (.int .i64 d) := p1
          go_wp2_with fail
          obtain ⟨WA, hWA⟩ : ∃ WA, wr.alloc (.cells #[.int .i64 c, .int .i64 d] 69) = WA := ⟨_, rfl⟩
          have gA : Gr w1 WA := by rw [← hWA]; exact hgr.alloc _
          have q0 : WA.cell? ⟨wr.heap.size, 0, none⟩ = some (.int .i64 c) := by rw [← hWA]; simp
          have q1 : WA.cell? ⟨wr.heap.size, 1, none⟩ = some (.int .i64 d) := by rw [← hWA]; simp
          have s0 : (bs (decDigits c.toNat)).size ≤ 4 := by rw [bs_size]; exact dd_len _ _ (by decide) (by omega)
          have s1 : (bs (decDigits d.toNat)).size ≤ 4 := by rw [bs_size]; exact dd_len _ _ (by decide) (by omega)
          have HCAT := Lib.hid (show bs (preT 6 l n) ++ (⟨#[32]⟩ ++ bs (decDigits c.toNat) ++ ⟨#[58]⟩ ++ bs (decDigits d.toNat)) = bs (preT 6 l (n + 1)) by
            rw [HN.out]
            show bs (preT 6 l n) ++ (bs [32] ++ bs (decDigits c.toNat) ++ bs [58] ++ bs (decDigits d.toNat)) = _
            rw [bs_app, bs_app, bs_app, bs_app]
            unfold ptW
            simp)
          have z32 : (⟨#[32]⟩ : ByteArray).size = 1 := rfl
          have z58 : (⟨#[58]⟩ : ByteArray).size = 1 := rfl
          have hn20 : (bs (preT 6 l n)).size ≤ 206 := by omega
          have R4 : ∀ w, (Op.stringOp .add ⟨#[32]⟩ (bs (decDigits c.toNat))).run Tryd.prog w = .ok (.string (⟨#[32]⟩ ++ bs (decDigits c.toNat))) w := fun w => run_string_add_sum w _ _ (by rw [z32]; omega)
          have R5 : ∀ w, (Op.stringOp .add (⟨#[32]⟩ ++ bs (decDigits c.toNat)) ⟨#[58]⟩).run Tryd.prog w = .ok (.string (⟨#[32]⟩ ++ bs (decDigits c.toNat) ++ ⟨#[58]⟩)) w := fun w => run_string_add_sum w _ _ (by rw [ByteArray.size_append', z32, z58]; omega)
          have R9 : ∀ w, (Op.stringOp .add (⟨#[32]⟩ ++ bs (decDigits c.toNat) ++ ⟨#[58]⟩) (bs (decDigits d.toNat))).run Tryd.prog w = .ok (.string (⟨#[32]⟩ ++ bs (decDigits c.toNat) ++ ⟨#[58]⟩ ++ bs (decDigits d.toNat))) w := fun w => run_string_add_sum w _ _ (by rw [ByteArray.size_append', ByteArray.size_append', z32, z58]; omega)
          have R10 : ∀ w, (Op.stringOp .add (bs (preT 6 l n)) (⟨#[32]⟩ ++ bs (decDigits c.toNat) ++ ⟨#[58]⟩ ++ bs (decDigits d.toNat))).run Tryd.prog w = .ok (.string (bs (preT 6 l n) ++ (⟨#[32]⟩ ++ bs (decDigits c.toNat) ++ ⟨#[58]⟩ ++ bs (decDigits d.toNat)))) w := fun w => run_string_add_sum w _ _ (by rw [ByteArray.size_append', ByteArray.size_append', ByteArray.size_append', z32, z58]; omega)
          rw [hWA]
          clear hWA p0 p1 z32 z58
          go_region_held3 (fun w' => w'.cell? ⟨wr.heap.size, 0, none⟩ = some (.int .i64 c) ∧ w'.cell? ⟨wr.heap.size, 1, none⟩ = some (.int .i64 d))
            (refine ⟨Gr.cell (w := WA) ?_ q0, Gr.cell (w := WA) ?_ q1⟩ <;> ((repeat (first | with_reducible exact Gr.refl _ | with_reducible assumption | with_reducible refine Gr.drew ?_ | with_reducible refine Gr.alloc ?_ _ | with_reducible refine Gr.trans ?_ (by assumption))); done))
            ((go_at_call 42; refine (HJ.out _ (by omega) (by omega) _ (hb1.trans (Gr.trans gA (by ((repeat (first | with_reducible exact Gr.refl _ | with_reducible assumption | with_reducible refine Gr.drew ?_ | with_reducible refine Gr.alloc ?_ _ | with_reducible refine Gr.trans ?_ (by assumption))); done))).bl)).mono ?_; rintro e w2 ⟨rfl, g2⟩))
          all_goals
            go_wp2_with fail
            go_roundw
            case rel => exact ⟨n + 1, by omega, by go_num, by rw [HCAT.out], Gr.trans gA (by ((repeat (first | with_reducible exact Gr.refl _ | with_reducible assumption | with_reducible refine Gr.drew ?_ | with_reducible refine Gr.alloc ?_ _ | with_reducible refine Gr.trans ?_ (by assumption))); done))⟩
            case measure => simp [intOf]; omega
        · obtain rfl : n = l.length := by omega
          go_wp2_with fail
          go_returns
          exact ⟨by rw [HR.out, ← HA.out]; rfl, hb1.trans hgr.bl⟩
    · have hl := ck_empty hck h6
      subst hl
      obtain ⟨o, cap, hsv⟩ : ∃ o cap, sv = .slice o 0 cap := no_pts h
      subst hsv
      have HT := Lib.hid (show cvText k [] = kw k by unfold cvText joinW; simp)
      have HW := Lib.hid (fun w' => words_any w')
      have hk : k = 1 ∨ k = 2 ∨ k = 3 ∨ k = 4 ∨ k = 5 := by omega
      clear h ht hck h6 k1 k6 HJ
      rcases hk with rfl | rfl | rfl | rfl | rfl
      · go_enter Tryd.func24, Tryd.ntmps24
        go_wp2_with fail
        refine (HC.out _ ((Bl.refl w).alloc _)).mono ?_
        rintro e w1 ⟨rfl, g1⟩
        obtain ⟨c0, c1⟩ := box2 rfl g1
        have hb1 : Bl w w1 := ((Bl.refl w).alloc _).trans g1
        have g0 : Gr w1 w1 := Gr.refl w1
        go_wp2_with fail
        go_region_with (go_at_call 57; refine (HW.out _).mono ?_; rintro e w2 ⟨rfl, g2, hc⟩; have hcell : w2.cell? ⟨w1.heap.size, 1, none⟩ = some (.string (bs (kw 1))) := (by first | exact hc 1 (by decide) | simpa using hc 1 (by decide)); clear hc; have hk0 := g2.cell (p := ⟨w.heap.size, 0, none⟩) (v := .int .i64 1) (by first | exact c0 | simpa using c0))
        all_goals
          go_wp2_with fail
          go_returns
          exact ⟨by rw [HR.out, HT.out]; rfl, hb1.trans (Gr.bl (by ((repeat (first | with_reducible exact Gr.refl _ | with_reducible assumption | with_reducible refine Gr.drew ?_ | with_reducible refine Gr.alloc ?_ _ | with_reducible refine Gr.trans ?_ (by assumption))); done)))⟩
      · go_enter Tryd.func24, Tryd.ntmps24
        go_wp2_with fail
        refine (HC.out _ ((Bl.refl w).alloc _)).mono ?_
        rintro e w1 ⟨rfl, g1⟩
        obtain ⟨c0, c1⟩ := box2 rfl g1
        have hb1 : Bl w w1 := ((Bl.refl w).alloc _).trans g1
        have g0 : Gr w1 w1 := Gr.refl w1
        go_wp2_with fail
        go_region_with (go_at_call 57; refine (HW.out _).mono ?_; rintro e w2 ⟨rfl, g2, hc⟩; have hcell : w2.cell? ⟨w1.heap.size, 2, none⟩ = some (.string (bs (kw 2))) := (by first | exact hc 2 (by decide) | simpa using hc 2 (by decide)); clear hc; have hk0 := g2.cell (p := ⟨w.heap.size, 0, none⟩) (v := .int .i64 2) (by first | exact c0 | simpa using c0))
        all_goals
          go_wp2_with fail
          go_returns
          exact ⟨by rw [HR.out, HT.out]; rfl, hb1.trans (Gr.bl (by ((repeat (first | with_reducible exact Gr.refl _ | with_reducible assumption | with_reducible refine Gr.drew ?_ | with_reducible refine Gr.alloc ?_ _ | with_reducible refine Gr.trans ?_ (by assumption))); done)))⟩
      · go_enter Tryd.func24, Tryd.ntmps24
        go_wp2_with fail
        refine (HC.out _ ((Bl.refl w).alloc _)).mono ?_
        rintro e w1 ⟨rfl, g1⟩
        obtain ⟨c0, c1⟩ := box2 rfl g1
        have hb1 : Bl w w1 := ((Bl.refl w).alloc _).trans g1
        have g0 : Gr w1 w1 := Gr.refl w1
        go_wp2_with fail
        go_region_with (go_at_call 57; refine (HW.out _).mono ?_; rintro e w2 ⟨rfl, g2, hc⟩; have hcell : w2.cell? ⟨w1.heap.size, 3, none⟩ = some (.string (bs (kw 3))) := (by first | exact hc 3 (by decide) | simpa using hc 3 (by decide)); clear hc; have hk0 := g2.cell (p := ⟨w.heap.size, 0, none⟩) (v := .int .i64 3) (by first | exact c0 | simpa using c0))
        all_goals
          go_wp2_with fail
          go_returns
          exact ⟨by rw [HR.out, HT.out]; rfl, hb1.trans (Gr.bl (by ((repeat (first | with_reducible exact Gr.refl _ | with_reducible assumption | with_reducible refine Gr.drew ?_ | with_reducible refine Gr.alloc ?_ _ | with_reducible refine Gr.trans ?_ (by assumption))); done)))⟩
      · go_enter Tryd.func24, Tryd.ntmps24
        go_wp2_with fail
        refine (HC.out _ ((Bl.refl w).alloc _)).mono ?_
        rintro e w1 ⟨rfl, g1⟩
        obtain ⟨c0, c1⟩ := box2 rfl g1
        have hb1 : Bl w w1 := ((Bl.refl w).alloc _).trans g1
        have g0 : Gr w1 w1 := Gr.refl w1
        go_wp2_with fail
        go_region_with (go_at_call 57; refine (HW.out _).mono ?_; rintro e w2 ⟨rfl, g2, hc⟩; have hcell : w2.cell? ⟨w1.heap.size, 4, none⟩ = some (.string (bs (kw 4))) := (by first | exact hc 4 (by decide) | simpa using hc 4 (by decide)); clear hc; have hk0 := g2.cell (p := ⟨w.heap.size, 0, none⟩) (v := .int .i64 4) (by first | exact c0 | simpa using c0))
        all_goals
          go_wp2_with fail
          go_returns
          exact ⟨by rw [HR.out, HT.out]; rfl, hb1.trans (Gr.bl (by ((repeat (first | with_reducible exact Gr.refl _ | with_reducible assumption | with_reducible refine Gr.drew ?_ | with_reducible refine Gr.alloc ?_ _ | with_reducible refine Gr.trans ?_ (by assumption))); done)))⟩
      · go_enter Tryd.func24, Tryd.ntmps24
        go_wp2_with fail
        refine (HC.out _ ((Bl.refl w).alloc _)).mono ?_
        rintro e w1 ⟨rfl, g1⟩
        obtain ⟨c0, c1⟩ := box2 rfl g1
        have hb1 : Bl w w1 := ((Bl.refl w).alloc _).trans g1
        have g0 : Gr w1 w1 := Gr.refl w1
        go_wp2_with fail
        go_region_with (go_at_call 57; refine (HW.out _).mono ?_; rintro e w2 ⟨rfl, g2, hc⟩; have hcell : w2.cell? ⟨w1.heap.size, 5, none⟩ = some (.string (bs (kw 5))) := (by first | exact hc 5 (by decide) | simpa using hc 5 (by decide)); clear hc; have hk0 := g2.cell (p := ⟨w.heap.size, 0, none⟩) (v := .int .i64 5) (by first | exact c0 | simpa using c0))
        all_goals
          go_wp2_with fail
          go_returns
          exact ⟨by rw [HR.out, HT.out]; rfl, hb1.trans (Gr.bl (by ((repeat (first | with_reducible exact Gr.refl _ | with_reducible assumption | with_reducible refine Gr.drew ?_ | with_reducible refine Gr.alloc ?_ _ | with_reducible refine Gr.trans ?_ (by assumption))); done)))⟩
  · have HR := Lib.hid (show ctR k l = .returned (.tuple #[.string (bs []), .int .i64 (ckCurve k l)]) by unfold ctR; rw [if_neg hck])
    have hne : (ckCurve k l != 0) = true := by simpa using hck
    obtain ⟨o, n, cap, rfl⟩ := h.form
    clear h ht hck
    generalize ckCurve k l = cc at *
    go_enter Tryd.func24, Tryd.ntmps24
    go_wp2_with fail
    refine (HC.out _ ((Bl.refl w).alloc _)).mono ?_
    rintro e w1 ⟨rfl, g1⟩
    go_wp2_with fail
    go_returns
    exact ⟨HR.out.symm, ((Bl.refl w).alloc _).trans g1⟩
end Go.Proofs.YtfeeolfekfkdiaaDoor
