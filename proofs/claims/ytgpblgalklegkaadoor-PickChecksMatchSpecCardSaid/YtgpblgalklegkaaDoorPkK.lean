/- Check of the program. -/
import Derived.Test.YtgpblgalklegkaaDoorPkC
namespace Go.Proofs.YtgpblgalklegkaaDoor
open Go.RowKit Go.Sort

set_option maxRecDepth 100000 in
set_option maxHeartbeats 3200000 in
theorem check_pick (p : Pk) (sv : Value) (w : World) (hsv : PkV w sv p.args) (hs : ShAt w) :
    Calls Tryd.prog 10 #[.agg #[.int .i64 p.kind, .int .i64 p.frm, .int .i64 p.to, sv]] w fun e w' => e = .returned (.int .i64 (ckP p)) ∧ Bl w w' := by
  obtain ⟨o, cap, rfl, hm⟩ := hsv.form
  have hP := parts_any w 12 (Nat.le_refl _) (w.alloc (.cells #[.int .i64 p.kind, .int .i64 p.frm, .int .i64 p.to, .slice o p.args.length cap] 24)) ((Bl.refl w).alloc _) (.slice none 0 0) [] (fun y hy => by cases hy) (rowP_nil _ _) (by simp) p _ hsv
  rw [show (13 - ((12 : Nat) : Int)) = 1 from rfl, show ([] : List (Pk × Value)).map Prod.fst = [] from rfl, small_prog p] at hP
  have HP := Lib.hid hP
  have HSH := Lib.hid hs
  clear hP hs hsv
  cases hsm : smallP p with
  | false =>
    rw [hsm, if_neg (by decide)] at HP
    have e : Hid (ckP p = 2) := by show _ = _; unfold ckP; rw [hsm, if_neg (by decide)]
    unfold PPar at HP
    clear hsm
    go_enter Tryd.func10, Tryd.ntmps10
    go_wp2_with fail
    refine HP.out.mono ?_
    rintro e1 w1 ⟨b1, rfl⟩
    go_wp2_with fail
    go_returns
    exact ⟨ret_int e.out.symm, b1⟩
  | true =>
    rw [hsm, if_pos rfl] at HP
    have e : Hid (ckP p = ckL (preD 12 p)) := by show _ = _; unfold ckP; rw [hsm, if_pos rfl]
    obtain ⟨L, hL⟩ : ∃ L, preD 12 p = L := ⟨_, rfl⟩
    rw [hL] at HP e
    unfold PPar at HP
    have HA := Lib.hid (fun j (hj : j < L.length) => ckL_at L j hj)
    clear hsm hL
    go_enter Tryd.func10, Tryd.ntmps10
    go_wp2_with fail
    refine HP.out.mono ?_
    rintro e1 w1 ⟨b1, v, ys, rfl, hy1, hy2, hrow, hlen⟩
    subst hy1
    obtain ⟨o1, cap1, rfl⟩ := hrow.form
    have HR := Lib.hid hrow
    have HY := Lib.hid hy2
    clear hrow hy2
    go_wp2_with fail
    go_loopw [17] (fun v17 wr => ∃ j : Nat, j ≤ ys.length ∧ v17 = .int .i64 j ∧ Hid (ckL (ys.map Prod.fst) = ckL ((ys.map Prod.fst).drop j)) ∧ Bl w1 wr) (fun v17 _ => ys.length - (intOf v17).toNat)
    case atStart => exact ⟨0, Nat.zero_le _, rfl, Lib.hid rfl, Bl.refl _⟩
    case round =>
      obtain ⟨j, hj, rfl, hck, hb⟩ := hrel
      by_cases hlt : j < ys.length
      · obtain ⟨g, rfl, c0, c1, c2, c3⟩ := (HR.out.bl hb).at j hlt
        have hstep := HA.out j (by simpa using hlt)
        rw [List.getElem_map] at hstep
        have hy := HY.out ys[j] (List.getElem_mem hlt)
        obtain ⟨y, hyj⟩ : ∃ y, y = ys[j] := ⟨_, rfl⟩
        rw [← hyj] at c0 c1 c2 c3 hstep hy
        have HST := Lib.hid hstep
        obtain ⟨q, sv⟩ := y
        obtain ⟨o4, cap4, hsv4, hm4⟩ := hy.form
        have hsv4 : sv = .slice o4 q.args.length cap4 := hsv4
        subst hsv4
        have c0 : wr.cell? ⟨g, 0 + j * 4, none⟩ = some (.int .i64 q.kind) := c0
        have c1 : wr.cell? ⟨g, 0 + j * 4 + 1, none⟩ = some (.int .i64 q.frm) := c1
        have c2 : wr.cell? ⟨g, 0 + j * 4 + 2, none⟩ = some (.int .i64 q.to) := c2
        have c3 : wr.cell? ⟨g, 0 + j * 4 + 3, none⟩ = some (.slice o4 q.args.length cap4) := c3
        rw [Nat.zero_add] at c0 c1 c2 c3
        have hB2 := hb.alloc (.cells #[.int .i64 q.kind, .int .i64 q.frm, .int .i64 q.to, .slice o4 q.args.length cap4] 24)
        have HC := Lib.hid (checkPart_any q (.slice o4 q.args.length cap4) _ ⟨_, _, rfl⟩ (HSH.out.bl (b1.trans hB2)))
        have HB2 := Lib.hid hB2
        clear hyj hstep hy hB2
        by_cases hz : ck1 q = 0
        · have hn : Hid (ckL (ys.map Prod.fst) = ckL ((ys.map Prod.fst).drop (j + 1))) := by show _ = _; rw [hck.out, HST.out]; exact if_neg (fun h => h hz)
          rw [hz] at HC
          clear hz
          go_wp2_with fail
          refine HC.out.mono ?_
          rintro e1 w2 ⟨rfl, b2⟩
          go_wp2_with fail
          go_roundw
          case rel => exact ⟨j + 1, by omega, by go_num, hn, HB2.out.trans b2⟩
          case measure => simp [intOf]; omega
        · have hn : Hid (ckP p = ck1 q) := by show _ = _; rw [e.out, hck.out, HST.out]; exact if_pos hz
          have t1 : (ck1 q != 0) = true := by simpa using hz
          generalize ck1 q = X at *
          clear hz
          go_wp2_with fail
          refine HC.out.mono ?_
          rintro e1 w2 ⟨rfl, b2⟩
          go_wp2_with fail
          go_returns
          exact ⟨ret_int hn.out.symm, b1.trans (HB2.out.trans b2)⟩
      · obtain rfl : j = ys.length := by omega
        have hn : Hid (ckP p = 0) := by show _ = _; rw [e.out, hck.out, List.drop_of_length_le (by simp)]; rfl
        go_wp2_with fail
        go_returns
        exact ⟨ret_int hn.out.symm, b1.trans hb⟩
end Go.Proofs.YtgpblgalklegkaaDoor
