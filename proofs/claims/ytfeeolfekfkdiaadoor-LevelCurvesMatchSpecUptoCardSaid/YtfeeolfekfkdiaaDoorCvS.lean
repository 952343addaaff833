/- The program's ReadCurve. -/
import Derived.Test.YtfeeolfekfkdiaaDoorCvR
namespace Go.Proofs.YtfeeolfekfkdiaaDoor
open Go.RowKit Go.Lib Go.Sort

/-! ReadCurve. -/
def rcX (l : List UInt8) : Int := if cvOk l = true then ckCurve (kindOf (cvW l)) (ppV (cvWs l)) else 9
def rcK (l : List UInt8) : Int := if rcX l = 0 then kindOf (cvW l) else 0
def rcL (l : List UInt8) : List (Int × Int) := if rcX l = 0 then ppV (cvWs l) else []
theorem rc_no {l : List UInt8} (h : rcX l ≠ 0) : rcK l = 0 ∧ rcL l = [] := ⟨if_neg h, if_neg h⟩
theorem rc_yes {l : List UInt8} (h : rcX l = 0) : rcK l = kindOf (cvW l) ∧ rcL l = ppV (cvWs l) := ⟨if_pos h, if_pos h⟩
def RcPost (s : ByteArray) (w : World) (e : Ending) (w' : World) : Prop := ∃ v, e = .returned (.tuple #[.agg #[.int .i64 (rcK s.data.toList), v], .int .i64 (rcX s.data.toList)]) ∧ PtsAny w' v (rcL s.data.toList) ∧ Bl w w'
set_option maxRecDepth 100000 in
set_option maxHeartbeats 3200000 in
theorem readCurve_any (s : ByteArray) (m : Int) (w : World) (hs : s.size ≤ 100000000) (hm : w.cell? ⟨0, 0, none⟩ = some (.int .i64 m)) :
    Calls Tryd.prog 27 #[.string s] w (RcPost s w) := by
  have HP := Lib.hid (fun w' (g : Bl w w') => parseCurve_any s m w' hs (g.cell hm))
  clear hm
  cases hok : cvOk s.data.toList with
  | false =>
    have hx : rcX s.data.toList = 9 := by unfold rcX; rw [hok]; rfl
    obtain ⟨k0, l0⟩ := rc_no (l := s.data.toList) (by rw [hx]; decide)
    have HX := Lib.hid hx
    have HK := Lib.hid k0
    have HL := Lib.hid l0
    have HQ := Lib.hid (fun w' (g : Bl w w') => (HP.out w' g).mono fun e w'' ⟨K, v, h1, h2, h3, h4⟩ => (⟨K, v, h1.trans (by rw [hok]), h2, h4⟩ : ∃ (K : Int) (v : Value), e = Ending.returned (.tuple #[.agg #[.int .i64 K, v], .bool false]) ∧ (∃ o n c, v = Value.slice o n c) ∧ Bl w' w''))
    clear hok hx k0 l0 HP
    go_enter Tryd.func27, Tryd.ntmps27
    go_wp2_with fail
    refine (HQ.out _ ((Bl.refl w).alloc _)).mono ?_
    rintro e w1 ⟨K, v, rfl, ⟨o, n, c, rfl⟩, g1⟩
    obtain ⟨r0, r1⟩ := box2 rfl g1
    have hbl1 : Bl w w1 := ((Bl.refl w).alloc _).trans g1
    have hs0 : w.heap.size < w1.heap.size := by have := g1.size; simp at this; omega
    have f2 : w1.frozen? ⟨w.heap.size, 0, none⟩ = false := by rw [g1.frozen (by simp)]; simp
    have f3 : w1.frozen? ⟨w.heap.size, 1, none⟩ = false := by rw [g1.frozen (by simp)]; simp
    obtain ⟨z0, z1⟩ := st2 (.int .i64 0) (.slice none 0 0) r0 r1
    have y0 := (((Bl.refl _).alloc (Obj.cells #[Value.int .i64 K, Value.slice o n c] 24))).cell z0
    have y1 := (((Bl.refl _).alloc (Obj.cells #[Value.int .i64 K, Value.slice o n c] 24))).cell z1
    have hb5 : Bl w (((w1.setCell ⟨w.heap.size, 0, none⟩ (.int .i64 0)).setCell ⟨w.heap.size, 1, none⟩ (.slice none 0 0)).alloc (.cells #[.int .i64 K, .slice o n c] 24)) := ((hbl1.setCell (p := ⟨w.heap.size, 0, none⟩) (Nat.le_refl _) _).setCell (p := ⟨w.heap.size, 1, none⟩) (Nat.le_refl _) _).alloc _
    have Y0 := Lib.hid y0
    have Y1 := Lib.hid y1
    have B5 := Lib.hid hb5
    clear z0 z1 y0 y1 hb5 hbl1
    go_wp2_with fail
    refine bodyPost_ret (v := .tuple #[.agg #[.int .i64 0, .slice none 0 0], .int .i64 9]) (by simp [results, Tryd.results27, go_sem, Y0.out, Y1.out]) rfl ⟨.slice none 0 0, by rw [HX.out, HK.out], by rw [HL.out]; exact Or.inl ⟨_, _, rfl, rfl⟩, B5.out⟩
  | true =>
    have hx : rcX s.data.toList = ckCurve (kindOf (cvW s.data.toList)) (ppV (cvWs s.data.toList)) := by unfold rcX; rw [if_pos hok]
    have HQ := Lib.hid (fun w' (g : Bl w w') => (HP.out w' g).mono fun e w'' ⟨K, v, h1, h2, h3, h4⟩ => (⟨v, h1.trans (by rw [hok, (h3 hok).1]), h2, (h3 hok).2, h4⟩ : ∃ (v : Value), e = Ending.returned (.tuple #[.agg #[.int .i64 (kindOf (cvW s.data.toList)), v], .bool true]) ∧ (∃ o n c, v = Value.slice o n c) ∧ Row w'.heap.size 69 w'' v (ppV (cvWs s.data.toList)) ∧ Bl w' w''))
    have hyes := rc_yes (l := s.data.toList)
    have hnot := rc_no (l := s.data.toList)
    have HC := Lib.hid (fun sv w' (h : PtsAny w' sv (ppV (cvWs s.data.toList))) => show Calls Tryd.prog 25 #[.agg #[.int .i64 (kindOf (cvW s.data.toList)), sv]] w' fun e w'' => e = .returned (.int .i64 (rcX s.data.toList)) ∧ Bl w' w'' from
      (checkCurve_any _ sv _ w' h).mono fun e w'' ⟨h1, h2⟩ => ⟨by rw [h1, hx], h2.bl⟩)
    clear hok hx HP
    generalize hgx : rcX s.data.toList = x at *
    have HXX := Lib.hid hgx
    clear hgx
    generalize hgk : kindOf (cvW s.data.toList) = k at *
    generalize hgl : ppV (cvWs s.data.toList) = l at *
    by_cases h0 : x = 0
    · obtain ⟨k0, l0⟩ := hyes h0
      subst h0
      have HK := Lib.hid k0
      have HL := Lib.hid l0
      clear hyes hnot k0 l0 hgk hgl
      go_enter Tryd.func27, Tryd.ntmps27
      go_wp2_with fail
      refine (HQ.out _ ((Bl.refl w).alloc _)).mono ?_
      rintro e w1 ⟨v, rfl, ⟨o, n, c, rfl⟩, hrow, g1⟩
      rw [World.size_alloc] at hrow
      obtain ⟨r0, r1⟩ := box2 rfl g1
      have hbl1 : Bl w w1 := ((Bl.refl w).alloc _).trans g1
      have hs0 : w.heap.size < w1.heap.size := by have := g1.size; simp at this; omega
      have f2 : w1.frozen? ⟨w.heap.size, 0, none⟩ = false := by rw [g1.frozen (by simp)]; simp
      have f3 : w1.frozen? ⟨w.heap.size, 1, none⟩ = false := by rw [g1.frozen (by simp)]; simp
      have HRW := Lib.hid hrow
      clear hrow
      go_wp2_with fail
      refine (HC.out _ _ (Row.pts (World.ownsRow.alloc HRW.out _))).mono ?_
      rintro e w2 ⟨rfl, g2⟩
      obtain ⟨c0, c1⟩ := box2 rfl g2
      have g12 : Bl w1 w2 := ((Bl.refl w1).alloc _).trans g2
      have q0 := g12.cell r0
      have q1 := g12.cell r1
      have e2 : w2.frozen? ⟨w.heap.size, 0, none⟩ = false := by rw [g12.frozen hs0]; exact f2
      have e3 : w2.frozen? ⟨w.heap.size, 1, none⟩ = false := by rw [g12.frozen hs0]; exact f3
      have hbl2 : Bl w w2 := hbl1.trans g12
      obtain ⟨z0, z1⟩ := st2 (.int .i64 k) (.slice o n c) q0 q1
      have hb5 : Bl w ((w2.setCell ⟨w.heap.size, 0, none⟩ (.int .i64 k)).setCell ⟨w.heap.size, 1, none⟩ (.slice o n c)) := (hbl2.setCell (p := ⟨w.heap.size, 0, none⟩) (Nat.le_refl _) _).setCell (p := ⟨w.heap.size, 1, none⟩) (Nat.le_refl _) _
      have hp6 := Row.pts (row_set (j := 1) (row_set (j := 0) (HRW.out.bl g12) (Nat.lt_succ_self w.heap.size) (.int .i64 k)) (Nat.lt_succ_self w.heap.size) (.slice o n c))
      have Y0 := Lib.hid z0
      have Y1 := Lib.hid z1
      have B5 := Lib.hid hb5
      have P6 := Lib.hid hp6
      clear z0 z1 hb5 hbl1 hbl2 hp6
      go_wp2_with fail
      refine bodyPost_ret (v := .tuple #[.agg #[.int .i64 k, .slice o n c], .int .i64 0]) (by simp [results, Tryd.results27, go_sem, Y0.out, Y1.out]) rfl ⟨.slice o n c, by rw [HK.out, HXX.out], by rw [HL.out]; exact P6.out, B5.out⟩
    · obtain ⟨k0, l0⟩ := hnot h0
      have hb : (x != 0) = true := by simpa using h0
      have HK := Lib.hid k0
      have HL := Lib.hid l0
      clear hyes hnot k0 l0 hgk hgl h0
      go_enter Tryd.func27, Tryd.ntmps27
      go_wp2_with fail
      refine (HQ.out _ ((Bl.refl w).alloc _)).mono ?_
      rintro e w1 ⟨v, rfl, ⟨o, n, c, rfl⟩, hrow, g1⟩
      rw [World.size_alloc] at hrow
      obtain ⟨r0, r1⟩ := box2 rfl g1
      have hbl1 : Bl w w1 := ((Bl.refl w).alloc _).trans g1
      have hs0 : w.heap.size < w1.heap.size := by have := g1.size; simp at this; omega
      have f2 : w1.frozen? ⟨w.heap.size, 0, none⟩ = false := by rw [g1.frozen (by simp)]; simp
      have f3 : w1.frozen? ⟨w.heap.size, 1, none⟩ = false := by rw [g1.frozen (by simp)]; simp
      have HRW := Lib.hid hrow
      clear hrow
      go_wp2_with fail
      refine (HC.out _ _ (Row.pts (World.ownsRow.alloc HRW.out _))).mono ?_
      rintro e w2 ⟨rfl, g2⟩
      obtain ⟨c0, c1⟩ := box2 rfl g2
      have g12 : Bl w1 w2 := ((Bl.refl w1).alloc _).trans g2
      have q0 := g12.cell r0
      have q1 := g12.cell r1
      have e2 : w2.frozen? ⟨w.heap.size, 0, none⟩ = false := by rw [g12.frozen hs0]; exact f2
      have e3 : w2.frozen? ⟨w.heap.size, 1, none⟩ = false := by rw [g12.frozen hs0]; exact f3
      have hbl2 : Bl w w2 := hbl1.trans g12
      obtain ⟨z0, z1⟩ := st2 (.int .i64 0) (.slice none 0 0) q0 q1
      have hb5 : Bl w ((w2.setCell ⟨w.heap.size, 0, none⟩ (.int .i64 0)).setCell ⟨w.heap.size, 1, none⟩ (.slice none 0 0)) := (hbl2.setCell (p := ⟨w.heap.size, 0, none⟩) (Nat.le_refl _) _).setCell (p := ⟨w.heap.size, 1, none⟩) (Nat.le_refl _) _
      have Y0 := Lib.hid z0
      have Y1 := Lib.hid z1
      have B5 := Lib.hid hb5
      clear z0 z1 hb5 hbl1 hbl2
      go_wp2_with fail
      refine bodyPost_ret (v := .tuple #[.agg #[.int .i64 0, .slice none 0 0], .int .i64 x]) (by simp [results, Tryd.results27, go_sem, Y0.out, Y1.out]) rfl ⟨.slice none 0 0, by rw [HK.out, HXX.out], by rw [HL.out]; exact Or.inl ⟨_, _, rfl, rfl⟩, B5.out⟩
end Go.Proofs.YtfeeolfekfkdiaaDoor
