/- Turn of the reference. -/
import Derived.Test.YtdnipbeggcfnbaaTurnP
import Derived.Test.YtdnipbeggcfnbaaFadeR
namespace Go.Proofs.Ytdnipbeggcfnbaa
open Go.RowKit

/-- The turned fade, in its box. -/
def TurnAt (W : World) (a b c d e k : Int) (l : List (Int × Int)) (s : Value) (wx : World) : Prop := ∃ n sv, s = .pointer (some ⟨n, 0, none⟩) ∧ W.heap.size ≤ n ∧ wx.heap[n]? = some (.cells #[.int .i64 a, .int .i64 b, .int .i64 c, .int .i64 d, .int .i64 e, .int .i64 k, sv] 46 (0, 0)) ∧ PtsN W.heap.size wx sv l ∧ Bl W wx
theorem box7_cells {w : World} {b : Nat} {a1 a2 a3 a4 a5 a6 a7 : Value} {e : TypeId} (h : w.heap[b]? = some (.cells #[a1, a2, a3, a4, a5, a6, a7] e (0, 0))) :
    w.cell? ⟨b, 0, none⟩ = some a1 ∧ w.cell? ⟨b, 1, none⟩ = some a2 ∧ w.cell? ⟨b, 2, none⟩ = some a3 ∧ w.cell? ⟨b, 3, none⟩ = some a4 ∧ w.cell? ⟨b, 4, none⟩ = some a5 ∧ w.cell? ⟨b, 5, none⟩ = some a6 ∧ w.cell? ⟨b, 6, none⟩ = some a7 := by
  refine ⟨?_, ?_, ?_, ?_, ?_, ?_, ?_⟩
  · rw [cell_of_row w b 0 _ _ (0, 0) h]; rfl
  · rw [cell_of_row w b 1 _ _ (0, 0) h]; rfl
  · rw [cell_of_row w b 2 _ _ (0, 0) h]; rfl
  · rw [cell_of_row w b 3 _ _ (0, 0) h]; rfl
  · rw [cell_of_row w b 4 _ _ (0, 0) h]; rfl
  · rw [cell_of_row w b 5 _ _ (0, 0) h]; rfl
  · rw [cell_of_row w b 6 _ _ (0, 0) h]; rfl
theorem box_bl7 {w w' : World} {b : Nat} {o : Obj} (h : w.heap[b]? = some o) (g : Bl w w') : w'.heap[b]? = some o := by
  rw [g.block b (box_lt h)]; exact h
theorem box7_set {w : World} {b : Nat} {a1 a2 a3 a4 a5 a6 a7 b1 b2 b3 b4 b5 b6 b7 : Value} {e : TypeId} (h : w.heap[b]? = some (.cells #[a1, a2, a3, a4, a5, a6, a7] e (0, 0))) :
    (((((((w.setCell ⟨b, 0, none⟩ b1).setCell ⟨b, 1, none⟩ b2).setCell ⟨b, 2, none⟩ b3).setCell ⟨b, 3, none⟩ b4).setCell ⟨b, 4, none⟩ b5).setCell ⟨b, 5, none⟩ b6).setCell ⟨b, 6, none⟩ b7).heap[b]? = some (.cells #[b1, b2, b3, b4, b5, b6, b7] e (0, 0)) := by
  simp [World.setCell, Array.getElem?_modify, h]
theorem ptsN_set7 {base : Nat} {w : World} {b : Nat} {sv : Value} {l : List (Int × Int)} (h : PtsN base w sv l) (hb : b < base) {b1 b2 b3 b4 b5 b6 b7 : Value} :
    PtsN base (((((((w.setCell ⟨b, 0, none⟩ b1).setCell ⟨b, 1, none⟩ b2).setCell ⟨b, 2, none⟩ b3).setCell ⟨b, 3, none⟩ b4).setCell ⟨b, 4, none⟩ b5).setCell ⟨b, 5, none⟩ b6).setCell ⟨b, 6, none⟩ b7) sv l :=
  ((((((h.set hb _).set hb _).set hb _).set hb _).set hb _).set hb _).set hb _

set_option maxRecDepth 100000 in
set_option maxHeartbeats 1600000 in
theorem turn_ref (F T S Dl Tm k : Int) (sv : Value) (l : List (Int × Int)) (t uu dl tm k2 : Int) (sv2 : Value) (l2 : List (Int × Int)) (w : World) (h : PtsAny w sv l) (h2 : PtsAny w sv2 l2) (hsz2 : l2.length * 16 ≤ 140737488355328) :
    Calls Try.prog 42 #[.agg #[.int .i64 F, .int .i64 T, .int .i64 S, .int .i64 Dl, .int .i64 Tm, .int .i64 k, sv], .int .i64 t, .int .i64 uu, .int .i64 dl, .int .i64 tm, .agg #[.int .i64 k2, sv2]] w (PTurn F T S Dl Tm k l t uu dl tm k2 l2 w) := by
  have TA := Lib.hid (fun w' (g : Bl w w') => at_ref F T S Dl Tm k t sv l w' (h.bl g))
  have TC0 := fun w' sv' (hp : PtsAny w' sv' l2) => checkFade_ref (atA F T S Dl Tm k l t) uu t dl tm k2 sv' l2 w' hp
  unfold PCk at TC0
  have TC := Lib.hid TC0
  have TN := Lib.hid (fun w' (g : Bl w w') => clone_any sv2 l2 w' (h2.bl g) hsz2)
  obtain ⟨o, ln, cap, hsv⟩ : ∃ o n cap, sv = .slice o n cap := by
    rcases h with ⟨o, cap, rfl, rfl⟩ | ⟨b, off, cap, rfl, h2, h3⟩
    · exact ⟨_, _, _, rfl⟩
    · exact ⟨_, _, _, rfl⟩
  obtain ⟨o2, ln2, cap2, hsv2⟩ : ∃ o n cap, sv2 = .slice o n cap := by
    rcases h2 with ⟨o, cap, rfl, rfl⟩ | ⟨b, off, cap, rfl, h2, h3⟩
    · exact ⟨_, _, _, rfl⟩
    · exact ⟨_, _, _, rfl⟩
  clear h h2 TC0 hsz2
  unfold PTurn tuX
  generalize atA F T S Dl Tm k l t = aa at *
  generalize atX F T S Dl Tm k l t = ax at *
  generalize ckFade aa uu t dl tm k2 l2 = cc at *
  subst hsv hsv2
  by_cases hax : ax = 0
  · subst hax
    have e0 : Hid ((if (0 : Int) ≠ 0 then (0 : Int) else cc) = cc) := if_neg (by decide)
    by_cases hcc : cc = 0
    · subst hcc
      refine Calls.mono (R := PTu 0 aa uu t dl tm k2 l2 w) ?_ (fun en w' hp => ⟨fun _ => hp, fun hz => absurd e0.out hz⟩)
      clear e0
      unfold PTu
      go_enter Try.func42, Try.ntmps42
      go_wp2_with fail
      obtain ⟨WA, hWA⟩ : ∃ WA, WA = w.alloc (.cells #[.int .i64 F, .int .i64 T, .int .i64 S, .int .i64 Dl, .int .i64 Tm, .int .i64 k, .slice o ln cap] 46) := ⟨_, rfl⟩
      rw [← hWA]
      have hbA : Bl w WA := by rw [hWA]; exact (Bl.refl w).alloc _
      have hsA : WA.heap.size = w.heap.size + 1 := by rw [hWA, World.size_alloc]
      obtain ⟨WB, hWB⟩ : ∃ WB, WB = WA.alloc (.cells #[.int .i64 k2, .slice o2 ln2 cap2] 40) := ⟨_, rfl⟩
      rw [← hWB]
      have hbB : Bl w WB := by rw [hWB]; exact hbA.alloc _
      have hsB0 : WB.heap.size = w.heap.size + 2 := by rw [hWB, World.size_alloc, hsA]
      obtain ⟨c0, c1⟩ := box2 (W := WA) (W' := WB) (n := w.heap.size + 1) hsA.symm (by rw [hWB]; exact Bl.refl _)
      obtain ⟨W1, hW1⟩ : ∃ W1, W1 = WB.alloc (.cells #[.int .i64 0, .int .i64 0, .int .i64 0, .int .i64 0, .int .i64 0, .int .i64 0, .slice none 0 0] 46) := ⟨_, rfl⟩
      rw [← hW1]
      have hb1 : Bl w W1 := by rw [hW1]; exact hbB.alloc _
      have hBB : Bl WB W1 := by rw [hW1]; exact (Bl.refl _).alloc _
      obtain ⟨z0, z1, z2, z3, z4, z5, z6⟩ := own7b (W := WB) (W' := W1) (n := w.heap.size + 2) hsB0.symm (by rw [hW1]; exact Bl.refl _)
      have fz := own7z (W := WB) (W' := W1) (n := w.heap.size + 2) hsB0.symm (by rw [hW1]; exact Bl.refl _)
      replace c0 := hBB.cell c0
      replace c1 := hBB.cell c1
      have hs1 : W1.heap.size = w.heap.size + 3 := by rw [hW1, World.size_alloc, hsB0]
      have hsz : w.heap.size ≤ w.heap.size + 2 := by omega
      clear hW1 hWA hWB hbA hbB hBB hsA hsB0
      refine (TA.out _ hb1).mono ?_
      rintro e' w2 ⟨rfl, g2⟩
      replace z0 := g2.cell z0
      replace z1 := g2.cell z1
      replace z2 := g2.cell z2
      replace z3 := g2.cell z3
      replace z4 := g2.cell z4
      replace z5 := g2.cell z5
      replace z6 := g2.cell z6
      replace c0 := g2.cell c0
      replace c1 := g2.cell c1
      replace fz : ∀ j, w2.frozen? ⟨w.heap.size + 2, j, none⟩ = false := fun j => by rw [g2.frozen (by simp only; omega)]; exact fz j
      have hb2 : Bl w w2 := hb1.trans g2
      have hs2 : w.heap.size + 2 < w2.heap.size := by have := g2.size; omega
      clear g2 hb1 hs1
      go_wp2_with fail
      go_cut [16] (fun s16 wx => TurnAt w2 aa uu t dl tm k2 l2 s16 wx)
      case first =>
        go_region_held3 (fun w' => w'.cell? ⟨w.heap.size + 1, 0, none⟩ = some (.int .i64 k2) ∧ w'.cell? ⟨w.heap.size + 1, 1, none⟩ = some (.slice o2 ln2 cap2))
          (refine ⟨Bl.cell (w := w2) ?_ c0, Bl.cell (w := w2) ?_ c1⟩ <;> ((repeat (first | with_reducible exact Bl.refl _ | with_reducible assumption | with_reducible refine Bl.drew ?_ | with_reducible refine Bl.alloc ?_ _ | (with_reducible refine Bl.setCell ?_ ?hs _; (case hs => (exact Bl.size (by ((repeat (first | with_reducible exact Bl.refl _ | with_reducible assumption | with_reducible refine Bl.drew ?_ | with_reducible refine Bl.alloc ?_ _ | with_reducible refine Bl.trans ?_ (by assumption))); done))))) | with_reducible refine Bl.trans ?_ (by assumption))); done))
          ((go_at_call 71; refine (TN.out _ (by refine Bl.trans hb2 ?_; ((repeat (first | with_reducible exact Bl.refl _ | with_reducible assumption | with_reducible refine Bl.drew ?_ | with_reducible refine Bl.alloc ?_ _ | with_reducible refine Bl.trans ?_ (by assumption))); done))).mono ?_; rintro e' w5 ⟨sv', rfl, hp5, g5⟩; obtain ⟨o3, n3, c3, rfl⟩ := hp5.form; have HN := Lib.hid hp5; clear hp5; (first | ((refine (fun (hzb : Bl (w2.alloc (.cells #[.int .i64 0, .int .i64 0, .int .i64 0, .int .i64 0, .int .i64 0, .int .i64 0, .slice none 0 0] 46)) w5) => ?_) ?_); rotate_left; (focus ((repeat (first | with_reducible exact Bl.refl _ | with_reducible assumption | with_reducible refine Bl.drew ?_ | with_reducible refine Bl.alloc ?_ _ | with_reducible refine Bl.trans ?_ (by assumption))); done)); (have hz := own7b rfl hzb); (have hzf := own7z rfl hzb); (have HQ := Lib.hid (box_bl7 (heap_alloc_new _ _) hzb)); clear hzb) | skip)))
        all_goals (go_wp2_with fail; go_meet)
        all_goals first
          | (have hq := HQ.out; refine ⟨w2.heap.size, .slice o3 n3 c3, rfl, Nat.le_refl _, box7_set hq, PtsN.mono (base' := w2.heap.size) (ptsN_set7 (HN.out) (by simp)) (by simp), ?_⟩; ((repeat (first | with_reducible exact Bl.refl _ | with_reducible assumption | with_reducible refine Bl.drew ?_ | with_reducible refine Bl.alloc ?_ _ | (with_reducible refine Bl.setCell ?_ ?hs _; (case hs => (exact Bl.size (by ((repeat (first | with_reducible exact Bl.refl _ | with_reducible assumption | with_reducible refine Bl.drew ?_ | with_reducible refine Bl.alloc ?_ _ | with_reducible refine Bl.trans ?_ (by assumption))); done))))) | with_reducible refine Bl.trans ?_ (by assumption))); done))
          | (refine ⟨w5.heap.size, .slice o3 n3 c3, rfl, Bl.size (by ((repeat (first | with_reducible exact Bl.refl _ | with_reducible assumption | with_reducible refine Bl.drew ?_ | with_reducible refine Bl.alloc ?_ _ | with_reducible refine Bl.trans ?_ (by assumption))); done)), heap_alloc_new _ _, PtsN.mono (base' := w2.heap.size) (HN.out.bl ((Bl.refl _).alloc _)) (Bl.size (by ((repeat (first | with_reducible exact Bl.refl _ | with_reducible assumption | with_reducible refine Bl.drew ?_ | with_reducible refine Bl.alloc ?_ _ | with_reducible refine Bl.trans ?_ (by assumption))); done))), ?_⟩; ((repeat (first | with_reducible exact Bl.refl _ | with_reducible assumption | with_reducible refine Bl.drew ?_ | with_reducible refine Bl.alloc ?_ _ | with_reducible refine Bl.trans ?_ (by assumption))); done))
      case rest =>
        obtain ⟨b, sv5, rfl, hbz, HX, hN, hB⟩ := hcut
        obtain ⟨o3, n3, c3, rfl⟩ := hN.form
        obtain ⟨q0, q1, q2, q3, q4, q5, q6⟩ := box7_cells HX
        have hbl := box_lt HX
        have HN := Lib.hid hN
        clear HX hN
        replace z0 := hB.cell z0
        replace z1 := hB.cell z1
        replace z2 := hB.cell z2
        replace z3 := hB.cell z3
        replace z4 := hB.cell z4
        replace z5 := hB.cell z5
        replace z6 := hB.cell z6
        replace fz : ∀ j, wc.frozen? ⟨w.heap.size + 2, j, none⟩ = false := fun j => by rw [hB.frozen (by simp only; omega)]; exact fz j
        have hb3 : Bl w wc := hb2.trans hB
        have hs3 : w2.heap.size ≤ wc.heap.size := hB.size
        clear hB
        go_wp2_with fail
        refine (TC.out _ _ HN.out.any).mono ?_
        rintro e' w6 ⟨rfl, g6⟩
        replace z0 := g6.cell z0
        replace z1 := g6.cell z1
        replace z2 := g6.cell z2
        replace z3 := g6.cell z3
        replace z4 := g6.cell z4
        replace z5 := g6.cell z5
        replace z6 := g6.cell z6
        replace q0 := g6.cell q0
        replace q1 := g6.cell q1
        replace q2 := g6.cell q2
        replace q3 := g6.cell q3
        replace q4 := g6.cell q4
        replace q5 := g6.cell q5
        replace q6 := g6.cell q6
        replace fz : ∀ j, w6.frozen? ⟨w.heap.size + 2, j, none⟩ = false := fun j => by rw [g6.frozen (by simp only; omega)]; exact fz j
        have hb6 : Bl w w6 := hb3.trans g6
        have HN6 := Lib.hid (HN.out.bl g6)
        clear g6 hb3
        go_wp2_with fail
        refine bodyPost_ret (v := .tuple #[.agg #[.int .i64 aa, .int .i64 uu, .int .i64 t, .int .i64 dl, .int .i64 tm, .int .i64 k2, .slice o3 n3 c3], .int .i64 0]) (by simp [results, Try.results42, go_sem, z0, z1, z2, z3, z4, z5, z6]) rfl ?_
        refine ⟨.slice o3 n3 c3, rfl, PtsN.any (base := w2.heap.size) ?_, (by (repeat (first | with_reducible assumption | with_reducible refine Bl.setCell ?_ hsz _)); done)⟩
        (repeat (refine PtsN.set ?_ (by assumption) _)); exact HN6.out
    · have hccb : (cc != 0) = true := by simpa using hcc
      refine Calls.mono (R := PTu cc 0 0 0 0 0 0 [] w) ?_ (fun en w' hp => ⟨fun hz => absurd (by rw [e0.out] at hz; exact hz) hcc, fun _ => by rw [e0.out]; exact hp⟩)
      clear hcc e0
      unfold PTu
      go_enter Try.func42, Try.ntmps42
      go_wp2_with fail
      obtain ⟨WA, hWA⟩ : ∃ WA, WA = w.alloc (.cells #[.int .i64 F, .int .i64 T, .int .i64 S, .int .i64 Dl, .int .i64 Tm, .int .i64 k, .slice o ln cap] 46) := ⟨_, rfl⟩
      rw [← hWA]
      have hbA : Bl w WA := by rw [hWA]; exact (Bl.refl w).alloc _
      have hsA : WA.heap.size = w.heap.size + 1 := by rw [hWA, World.size_alloc]
      obtain ⟨WB, hWB⟩ : ∃ WB, WB = WA.alloc (.cells #[.int .i64 k2, .slice o2 ln2 cap2] 40) := ⟨_, rfl⟩
      rw [← hWB]
      have hbB : Bl w WB := by rw [hWB]; exact hbA.alloc _
      have hsB0 : WB.heap.size = w.heap.size + 2 := by rw [hWB, World.size_alloc, hsA]
      obtain ⟨c0, c1⟩ := box2 (W := WA) (W' := WB) (n := w.heap.size + 1) hsA.symm (by rw [hWB]; exact Bl.refl _)
      obtain ⟨W1, hW1⟩ : ∃ W1, W1 = WB.alloc (.cells #[.int .i64 0, .int .i64 0, .int .i64 0, .int .i64 0, .int .i64 0, .int .i64 0, .slice none 0 0] 46) := ⟨_, rfl⟩
      rw [← hW1]
      have hb1 : Bl w W1 := by rw [hW1]; exact hbB.alloc _
      have hBB : Bl WB W1 := by rw [hW1]; exact (Bl.refl _).alloc _
      obtain ⟨z0, z1, z2, z3, z4, z5, z6⟩ := own7b (W := WB) (W' := W1) (n := w.heap.size + 2) hsB0.symm (by rw [hW1]; exact Bl.refl _)
      have fz := own7z (W := WB) (W' := W1) (n := w.heap.size + 2) hsB0.symm (by rw [hW1]; exact Bl.refl _)
      replace c0 := hBB.cell c0
      replace c1 := hBB.cell c1
      have hs1 : W1.heap.size = w.heap.size + 3 := by rw [hW1, World.size_alloc, hsB0]
      have hsz : w.heap.size ≤ w.heap.size + 2 := by omega
      clear hW1 hWA hWB hbA hbB hBB hsA hsB0
      refine (TA.out _ hb1).mono ?_
      rintro e' w2 ⟨rfl, g2⟩
      replace z0 := g2.cell z0
      replace z1 := g2.cell z1
      replace z2 := g2.cell z2
      replace z3 := g2.cell z3
      replace z4 := g2.cell z4
      replace z5 := g2.cell z5
      replace z6 := g2.cell z6
      replace c0 := g2.cell c0
      replace c1 := g2.cell c1
      replace fz : ∀ j, w2.frozen? ⟨w.heap.size + 2, j, none⟩ = false := fun j => by rw [g2.frozen (by simp only; omega)]; exact fz j
      have hb2 : Bl w w2 := hb1.trans g2
      have hs2 : w.heap.size + 2 < w2.heap.size := by have := g2.size; omega
      clear g2 hb1 hs1
      go_wp2_with fail
      go_cut [16] (fun s16 wx => TurnAt w2 aa uu t dl tm k2 l2 s16 wx)
      case first =>
        go_region_held3 (fun w' => w'.cell? ⟨w.heap.size + 1, 0, none⟩ = some (.int .i64 k2) ∧ w'.cell? ⟨w.heap.size + 1, 1, none⟩ = some (.slice o2 ln2 cap2))
          (refine ⟨Bl.cell (w := w2) ?_ c0, Bl.cell (w := w2) ?_ c1⟩ <;> ((repeat (first | with_reducible exact Bl.refl _ | with_reducible assumption | with_reducible refine Bl.drew ?_ | with_reducible refine Bl.alloc ?_ _ | (with_reducible refine Bl.setCell ?_ ?hs _; (case hs => (exact Bl.size (by ((repeat (first | with_reducible exact Bl.refl _ | with_reducible assumption | with_reducible refine Bl.drew ?_ | with_reducible refine Bl.alloc ?_ _ | with_reducible refine Bl.trans ?_ (by assumption))); done))))) | with_reducible refine Bl.trans ?_ (by assumption))); done))
          ((go_at_call 71; refine (TN.out _ (by refine Bl.trans hb2 ?_; ((repeat (first | with_reducible exact Bl.refl _ | with_reducible assumption | with_reducible refine Bl.drew ?_ | with_reducible refine Bl.alloc ?_ _ | with_reducible refine Bl.trans ?_ (by assumption))); done))).mono ?_; rintro e' w5 ⟨sv', rfl, hp5, g5⟩; obtain ⟨o3, n3, c3, rfl⟩ := hp5.form; have HN := Lib.hid hp5; clear hp5; (first | ((refine (fun (hzb : Bl (w2.alloc (.cells #[.int .i64 0, .int .i64 0, .int .i64 0, .int .i64 0, .int .i64 0, .int .i64 0, .slice none 0 0] 46)) w5) => ?_) ?_); rotate_left; (focus ((repeat (first | with_reducible exact Bl.refl _ | with_reducible assumption | with_reducible refine Bl.drew ?_ | with_reducible refine Bl.alloc ?_ _ | with_reducible refine Bl.trans ?_ (by assumption))); done)); (have hz := own7b rfl hzb); (have hzf := own7z rfl hzb); (have HQ := Lib.hid (box_bl7 (heap_alloc_new _ _) hzb)); clear hzb) | skip)))
        all_goals (go_wp2_with fail; go_meet)
        all_goals first
          | (have hq := HQ.out; refine ⟨w2.heap.size, .slice o3 n3 c3, rfl, Nat.le_refl _, box7_set hq, PtsN.mono (base' := w2.heap.size) (ptsN_set7 (HN.out) (by simp)) (by simp), ?_⟩; ((repeat (first | with_reducible exact Bl.refl _ | with_reducible assumption | with_reducible refine Bl.drew ?_ | with_reducible refine Bl.alloc ?_ _ | (with_reducible refine Bl.setCell ?_ ?hs _; (case hs => (exact Bl.size (by ((repeat (first | with_reducible exact Bl.refl _ | with_reducible assumption | with_reducible refine Bl.drew ?_ | with_reducible refine Bl.alloc ?_ _ | with_reducible refine Bl.trans ?_ (by assumption))); done))))) | with_reducible refine Bl.trans ?_ (by assumption))); done))
          | (refine ⟨w5.heap.size, .slice o3 n3 c3, rfl, Bl.size (by ((repeat (first | with_reducible exact Bl.refl _ | with_reducible assumption | with_reducible refine Bl.drew ?_ | with_reducible refine Bl.alloc ?_ _ | with_reducible refine Bl.trans ?_ (by assumption))); done)), heap_alloc_new _ _, PtsN.mono (base' := w2.heap.size) (HN.out.bl ((Bl.refl _).alloc _)) (Bl.size (by ((repeat (first | with_reducible exact Bl.refl _ | with_reducible assumption | with_reducible refine Bl.drew ?_ | with_reducible refine Bl.alloc ?_ _ | with_reducible refine Bl.trans ?_ (by assumption))); done))), ?_⟩; ((repeat (first | with_reducible exact Bl.refl _ | with_reducible assumption | with_reducible refine Bl.drew ?_ | with_reducible refine Bl.alloc ?_ _ | with_reducible refine Bl.trans ?_ (by assumption))); done))
      case rest =>
        obtain ⟨b, sv5, rfl, hbz, HX, hN, hB⟩ := hcut
        obtain ⟨o3, n3, c3, rfl⟩ := hN.form
        obtain ⟨q0, q1, q2, q3, q4, q5, q6⟩ := box7_cells HX
        have hbl := box_lt HX
        have HN := Lib.hid hN
        clear HX hN
        replace z0 := hB.cell z0
        replace z1 := hB.cell z1
        replace z2 := hB.cell z2
        replace z3 := hB.cell z3
        replace z4 := hB.cell z4
        replace z5 := hB.cell z5
        replace z6 := hB.cell z6
        replace fz : ∀ j, wc.frozen? ⟨w.heap.size + 2, j, none⟩ = false := fun j => by rw [hB.frozen (by simp only; omega)]; exact fz j
        have hb3 : Bl w wc := hb2.trans hB
        have hs3 : w2.heap.size ≤ wc.heap.size := hB.size
        clear hB
        go_wp2_with fail
        refine (TC.out _ _ HN.out.any).mono ?_
        rintro e' w6 ⟨rfl, g6⟩
        replace z0 := g6.cell z0
        replace z1 := g6.cell z1
        replace z2 := g6.cell z2
        replace z3 := g6.cell z3
        replace z4 := g6.cell z4
        replace z5 := g6.cell z5
        replace z6 := g6.cell z6
        replace q0 := g6.cell q0
        replace q1 := g6.cell q1
        replace q2 := g6.cell q2
        replace q3 := g6.cell q3
        replace q4 := g6.cell q4
        replace q5 := g6.cell q5
        replace q6 := g6.cell q6
        replace fz : ∀ j, w6.frozen? ⟨w.heap.size + 2, j, none⟩ = false := fun j => by rw [g6.frozen (by simp only; omega)]; exact fz j
        have hb6 : Bl w w6 := hb3.trans g6
        have HN6 := Lib.hid (HN.out.bl g6)
        clear g6 hb3
        go_wp2_with fail
        refine bodyPost_ret (v := .tuple #[.agg #[.int .i64 0, .int .i64 0, .int .i64 0, .int .i64 0, .int .i64 0, .int .i64 0, .slice none 0 0], .int .i64 cc]) (by simp [results, Try.results42, go_sem, z0, z1, z2, z3, z4, z5, z6]) rfl ?_
        exact ⟨.slice none 0 0, rfl, Or.inl ⟨_, _, rfl, rfl⟩, (by (repeat (first | with_reducible assumption | with_reducible refine Bl.setCell ?_ hsz _)); done)⟩
  · have haxb : (ax != 0) = true := by simpa using hax
    have e0 : Hid ((if ax ≠ 0 then ax else cc) = ax) := if_pos hax
    refine Calls.mono (R := PTu ax 0 0 0 0 0 0 [] w) ?_ (fun en w' hp => ⟨fun hz => absurd (by rw [e0.out] at hz; exact hz) hax, fun _ => by rw [e0.out]; exact hp⟩)
    clear hax TC TN e0
    unfold PTu
    go_enter Try.func42, Try.ntmps42
    go_wp2_with fail
    obtain ⟨WA, hWA⟩ : ∃ WA, WA = w.alloc (.cells #[.int .i64 F, .int .i64 T, .int .i64 S, .int .i64 Dl, .int .i64 Tm, .int .i64 k, .slice o ln cap] 46) := ⟨_, rfl⟩
    rw [← hWA]
    have hbA : Bl w WA := by rw [hWA]; exact (Bl.refl w).alloc _
    have hsA : WA.heap.size = w.heap.size + 1 := by rw [hWA, World.size_alloc]
    obtain ⟨WB, hWB⟩ : ∃ WB, WB = WA.alloc (.cells #[.int .i64 k2, .slice o2 ln2 cap2] 40) := ⟨_, rfl⟩
    rw [← hWB]
    have hbB : Bl w WB := by rw [hWB]; exact hbA.alloc _
    have hsB0 : WB.heap.size = w.heap.size + 2 := by rw [hWB, World.size_alloc, hsA]
    obtain ⟨c0, c1⟩ := box2 (W := WA) (W' := WB) (n := w.heap.size + 1) hsA.symm (by rw [hWB]; exact Bl.refl _)
    obtain ⟨W1, hW1⟩ : ∃ W1, W1 = WB.alloc (.cells #[.int .i64 0, .int .i64 0, .int .i64 0, .int .i64 0, .int .i64 0, .int .i64 0, .slice none 0 0] 46) := ⟨_, rfl⟩
    rw [← hW1]
    have hb1 : Bl w W1 := by rw [hW1]; exact hbB.alloc _
    have hBB : Bl WB W1 := by rw [hW1]; exact (Bl.refl _).alloc _
    obtain ⟨z0, z1, z2, z3, z4, z5, z6⟩ := own7b (W := WB) (W' := W1) (n := w.heap.size + 2) hsB0.symm (by rw [hW1]; exact Bl.refl _)
    have fz := own7z (W := WB) (W' := W1) (n := w.heap.size + 2) hsB0.symm (by rw [hW1]; exact Bl.refl _)
    replace c0 := hBB.cell c0
    replace c1 := hBB.cell c1
    have hs1 : W1.heap.size = w.heap.size + 3 := by rw [hW1, World.size_alloc, hsB0]
    have hsz : w.heap.size ≤ w.heap.size + 2 := by omega
    clear hW1 hWA hWB hbA hbB hBB hsA hsB0
    refine (TA.out _ hb1).mono ?_
    rintro e' w2 ⟨rfl, g2⟩
    replace z0 := g2.cell z0
    replace z1 := g2.cell z1
    replace z2 := g2.cell z2
    replace z3 := g2.cell z3
    replace z4 := g2.cell z4
    replace z5 := g2.cell z5
    replace z6 := g2.cell z6
    replace c0 := g2.cell c0
    replace c1 := g2.cell c1
    replace fz : ∀ j, w2.frozen? ⟨w.heap.size + 2, j, none⟩ = false := fun j => by rw [g2.frozen (by simp only; omega)]; exact fz j
    have hb2 : Bl w w2 := hb1.trans g2
    have hs2 : w.heap.size + 2 < w2.heap.size := by have := g2.size; omega
    clear g2 hb1 hs1
    go_wp2_with fail
    refine bodyPost_ret (v := .tuple #[.agg #[.int .i64 0, .int .i64 0, .int .i64 0, .int .i64 0, .int .i64 0, .int .i64 0, .slice none 0 0], .int .i64 ax]) (by simp [results, Try.results42, go_sem, z0, z1, z2, z3, z4, z5, z6]) rfl ?_
    exact ⟨.slice none 0 0, rfl, Or.inl ⟨_, _, rfl, rfl⟩, (by (repeat (first | with_reducible assumption | with_reducible refine Bl.setCell ?_ hsz _)); done)⟩
end Go.Proofs.Ytdnipbeggcfnbaa
