/- Turn of the program. -/
import Derived.Test.YtbmficaefnkepaaDoorCopy
import Derived.Test.YtbmficaefnkepaaDoorAt
namespace Go.Proofs.YtbmficaefnkepaaDoor
open Go.RowKit

/-- A fade and an answer are returned. -/
def PTu (x a b c d e k : Int) (l : List (Int × Int)) (w : World) (en : Ending) (w' : World) : Prop := ∃ sv, en = .returned (.tuple #[.agg #[.int .i64 a, .int .i64 b, .int .i64 c, .int .i64 d, .int .i64 e, .int .i64 k, sv], .int .i64 x]) ∧ PtsAny w' sv l ∧ Bl w w'
/-- What is wrong with a turn. -/
def tuX (F T S Dl Tm k : Int) (l : List (Int × Int)) (t uu dl tm k2 : Int) (l2 : List (Int × Int)) : Int := if atX F T S Dl Tm k l t ≠ 0 then atX F T S Dl Tm k l t else ckFade (atA F T S Dl Tm k l t) uu t dl tm k2 l2
/-- What Turn returns. -/
def PTurn (F T S Dl Tm k : Int) (l : List (Int × Int)) (t uu dl tm k2 : Int) (l2 : List (Int × Int)) (w : World) (en : Ending) (w' : World) : Prop :=
  (tuX F T S Dl Tm k l t uu dl tm k2 l2 = 0 → PTu 0 (atA F T S Dl Tm k l t) uu t dl tm k2 l2 w en w') ∧ (tuX F T S Dl Tm k l t uu dl tm k2 l2 ≠ 0 → PTu (tuX F T S Dl Tm k l t uu dl tm k2 l2) 0 0 0 0 0 0 [] w en w')

theorem PtsN.form {base : Nat} {w : World} {sv : Value} {l : List (Int × Int)} (h : PtsN base w sv l) : ∃ o n c, sv = .slice o n c := by
  rcases h with ⟨o, cap, h, _⟩ | ⟨b, off, cap, h, _, _⟩
  · exact ⟨_, _, _, h⟩
  · exact ⟨_, _, _, h⟩
theorem own7z {W W' : World} {n : Nat} {a b c d x y z : Value} {t : TypeId} (hn : n = W.heap.size) (h : Bl (W.alloc (.cells #[a, b, c, d, x, y, z] t)) W') : ∀ j, W'.frozen? ⟨n, j, none⟩ = false := by
  intro j
  subst hn
  rw [h.frozen (by simp)]; simp

theorem ckCurve_len {k : Int} {l : List (Int × Int)} (h : ckCurve k l = 0) : l.length ≤ 20 := by
  unfold ckCurve at h
  by_cases h3 : k < 1 ∨ 6 < k
  · rw [if_pos h3] at h; omega
  rw [if_neg h3] at h
  by_cases h6 : k = 6
  · rw [if_pos h6] at h; exact (okTab_of l h).most
  · rw [if_neg h6] at h
    by_cases h0 : 0 < l.length
    · rw [if_pos h0] at h; omega
    · omega

set_option maxRecDepth 100000 in
set_option maxHeartbeats 3200000 in
theorem turn_prog (F T S Dl Tm k : Int) (sv : Value) (l : List (Int × Int)) (t uu dl tm k2 : Int) (sv2 : Value) (l2 : List (Int × Int)) (w : World) (h : PtsAny w sv l) (h2 : PtsAny w sv2 l2) :
    Calls Tryd.prog 9 #[.agg #[.int .i64 F, .int .i64 T, .int .i64 S, .int .i64 Dl, .int .i64 Tm, .int .i64 k, sv], .int .i64 t, .int .i64 uu, .int .i64 dl, .int .i64 tm, .agg #[.int .i64 k2, sv2]] w (PTurn F T S Dl Tm k l t uu dl tm k2 l2 w) := by
  have TA := Lib.hid (fun w' (g : Bl w w') => at_any F T S Dl Tm k t l sv w' (h.bl g))
  have TC := Lib.hid (fun w' (g : Bl w w') => checkFade_any (atA F T S Dl Tm k l t) uu t dl tm k2 sv2 l2 w' (h2.bl g))
  have TY := Lib.hid (fun w' (g : Bl w w') (hl : l2.length ≤ 20) => copied_any k2 sv2 l2 w' (h2.bl g) hl)
  have HL : Hid (ckFade (atA F T S Dl Tm k l t) uu t dl tm k2 l2 = 0 → l2.length ≤ 20) := fun hc => ckCurve_len (okFade_of hc).2
  obtain ⟨o, ln, cap, hsv⟩ : ∃ o n cap, sv = .slice o n cap := by
    rcases h with ⟨o, cap, rfl, rfl⟩ | ⟨b, off, cap, rfl, h2, h3⟩
    · exact ⟨_, _, _, rfl⟩
    · exact ⟨_, _, _, rfl⟩
  obtain ⟨o2, ln2, cap2, hsv2⟩ : ∃ o n cap, sv2 = .slice o n cap := by
    rcases h2 with ⟨o, cap, rfl, rfl⟩ | ⟨b, off, cap, rfl, h2, h3⟩
    · exact ⟨_, _, _, rfl⟩
    · exact ⟨_, _, _, rfl⟩
  clear h h2
  unfold PTurn tuX
  generalize atA F T S Dl Tm k l t = aa at *
  generalize atX F T S Dl Tm k l t = ax at *
  generalize ckFade aa uu t dl tm k2 l2 = cc at *
  subst hsv hsv2
  by_cases hax : ax = 0
  · subst hax
    have e0 : Hid ((if (0 : Int) ≠ 0 then (0 : Int) else cc) = cc) := if_neg (by decide)
    by_cases hcc : cc = 0
    · subst hcc
      have hl2 := HL.out rfl
      refine Calls.mono (R := PTu 0 aa uu t dl tm k2 l2 w) ?_ (fun en w' hp => ⟨fun _ => hp, fun hz => absurd e0.out hz⟩)
      clear HL e0
      unfold PTu
      go_enter Tryd.func9, Tryd.ntmps9
      go_wp2_with fail
      obtain ⟨WA, hWA⟩ : ∃ WA, WA = w.alloc (.cells #[.int .i64 F, .int .i64 T, .int .i64 S, .int .i64 Dl, .int .i64 Tm, .int .i64 k, .slice o ln cap] 26) := ⟨_, rfl⟩
      rw [← hWA]
      have hbA : Bl w WA := by rw [hWA]; exact (Bl.refl w).alloc _
      have hsA : WA.heap.size = w.heap.size + 1 := by rw [hWA, World.size_alloc]
      obtain ⟨WB, hWB⟩ : ∃ WB, WB = WA.alloc (.cells #[.int .i64 k2, .slice o2 ln2 cap2] 24) := ⟨_, rfl⟩
      rw [← hWB]
      have hbB : Bl w WB := by rw [hWB]; exact hbA.alloc _
      have hsB0 : WB.heap.size = w.heap.size + 2 := by rw [hWB, World.size_alloc, hsA]
      obtain ⟨c0, c1⟩ := box2 (W := WA) (W' := WB) (n := w.heap.size + 1) hsA.symm (by rw [hWB]; exact Bl.refl _)
      obtain ⟨W1, hW1⟩ : ∃ W1, W1 = WB.alloc (.cells #[.int .i64 0, .int .i64 0, .int .i64 0, .int .i64 0, .int .i64 0, .int .i64 0, .slice none 0 0] 26) := ⟨_, rfl⟩
      rw [← hW1]
      have hb1 : Bl w W1 := by rw [hW1]; exact hbB.alloc _
      have hBB : Bl WB W1 := by rw [hW1]; exact (Bl.refl _).alloc _
      obtain ⟨z0, z1, z2, z3, z4, z5, z6⟩ := own7b (W := WB) (W' := W1) (n := w.heap.size + 2) hsB0.symm (by rw [hW1]; exact Bl.refl _)
      have fz := own7z (W := WB) (W' := W1) (n := w.heap.size + 2) hsB0.symm (by rw [hW1]; exact Bl.refl _)
      replace c0 := hBB.cell c0
      replace c1 := hBB.cell c1
      have hs1 : W1.heap.size = w.heap.size + 3 := by rw [hW1, World.size_alloc, hsB0]
      have hsz : w.heap.size ≤ w.heap.size + 2 := by omega
      clear hW1 hWA hWB hbA hbB hBB hsA hsB0
      refine (TA.out _ hb1).mono ?_
      rintro e' w2 ⟨rfl, g2'⟩
      have g2 := g2'.bl
      clear g2'
      replace z0 := g2.cell z0
      replace z1 := g2.cell z1
      replace z2 := g2.cell z2
      replace z3 := g2.cell z3
      replace z4 := g2.cell z4
      replace z5 := g2.cell z5
      replace z6 := g2.cell z6
      replace c0 := g2.cell c0
      replace c1 := g2.cell c1
      replace fz : ∀ j, w2.frozen? ⟨w.heap.size + 2, j, none⟩ = false := fun j => by rw [g2.frozen (by simp only; omega)]; exact fz j
      have hb2 : Bl w w2 := hb1.trans g2
      have hs2 : w.heap.size + 2 < w2.heap.size := by have := g2.size; omega
      clear g2 hb1 hs1
      go_wp2_with fail
      refine (TC.out _ (hb2.alloc _)).mono ?_
      rintro e' w3 ⟨rfl, g3'⟩
      have g3 := g3'.bl
      clear g3'
      have g23 : Bl w2 w3 := ((Bl.refl w2).alloc _).trans g3
      replace z0 := g23.cell z0
      replace z1 := g23.cell z1
      replace z2 := g23.cell z2
      replace z3 := g23.cell z3
      replace z4 := g23.cell z4
      replace z5 := g23.cell z5
      replace z6 := g23.cell z6
      replace c0 := g23.cell c0
      replace c1 := g23.cell c1
      replace fz : ∀ j, w3.frozen? ⟨w.heap.size + 2, j, none⟩ = false := fun j => by rw [g23.frozen (by simp only; omega)]; exact fz j
      have hb3 : Bl w w3 := hb2.trans g23
      obtain ⟨q0, q1, q2, q3, q4, q5, q6⟩ := own7b rfl g3
      have fq := own7z rfl g3
      have hs3 : w2.heap.size < w3.heap.size := by have := g3.size; simp at this; omega
      clear g3 g23
      obtain ⟨B, hB⟩ : ∃ B, B = w2.heap.size := ⟨_, rfl⟩
      rw [← hB] at q0 q1 q2 q3 q4 q5 q6 fq hs3 hs2
      rw [← hB]
      clear hB
      go_wp2_with fail
      refine (TY.out _ hb3 hl2).mono ?_
      rintro e' w4 ⟨sv', rfl, hp4, g4⟩
      obtain ⟨o3, n3, c3, rfl⟩ := hp4.form
      have HN := Lib.hid hp4
      clear hp4
      replace z0 := g4.cell z0
      replace z1 := g4.cell z1
      replace z2 := g4.cell z2
      replace z3 := g4.cell z3
      replace z4 := g4.cell z4
      replace z5 := g4.cell z5
      replace z6 := g4.cell z6
      replace q0 := g4.cell q0
      replace q1 := g4.cell q1
      replace q2 := g4.cell q2
      replace q3 := g4.cell q3
      replace q4 := g4.cell q4
      replace q5 := g4.cell q5
      replace q6 := g4.cell q6
      replace fz : ∀ j, w4.frozen? ⟨w.heap.size + 2, j, none⟩ = false := fun j => by rw [g4.frozen (by simp only; omega)]; exact fz j
      replace fq : ∀ j, w4.frozen? ⟨B, j, none⟩ = false := fun j => by rw [g4.frozen hs3]; exact fq j
      have hb4 : Bl w w4 := hb3.trans g4
      have hsB : w.heap.size ≤ B := by omega
      have hs4 : w.heap.size + 2 < w3.heap.size := by omega
      clear g4 hb3 hb2
      go_wp2_with fail
      refine bodyPost_ret (v := .tuple #[.agg #[.int .i64 aa, .int .i64 uu, .int .i64 t, .int .i64 dl, .int .i64 tm, .int .i64 k2, .slice o3 n3 c3], .int .i64 0]) (by simp [results, Tryd.results9, go_sem, z0, z1, z2, z3, z4, z5, z6]) rfl ?_
      refine ⟨.slice o3 n3 c3, rfl, PtsN.any (base := w3.heap.size) ?_, (by (repeat (first | with_reducible assumption | with_reducible refine Bl.setCell ?_ hsz _ | with_reducible refine Bl.setCell ?_ hsB _)); done)⟩
      (repeat (refine PtsN.set ?_ (by assumption) _)); exact HN.out
    · have hccb : (cc != 0) = true := by simpa using hcc
      refine Calls.mono (R := PTu cc 0 0 0 0 0 0 [] w) ?_ (fun en w' hp => ⟨fun hz => absurd (by rw [e0.out] at hz; exact hz) hcc, fun _ => by rw [e0.out]; exact hp⟩)
      clear hcc HL TY e0
      unfold PTu
      go_enter Tryd.func9, Tryd.ntmps9
      go_wp2_with fail
      obtain ⟨WA, hWA⟩ : ∃ WA, WA = w.alloc (.cells #[.int .i64 F, .int .i64 T, .int .i64 S, .int .i64 Dl, .int .i64 Tm, .int .i64 k, .slice o ln cap] 26) := ⟨_, rfl⟩
      rw [← hWA]
      have hbA : Bl w WA := by rw [hWA]; exact (Bl.refl w).alloc _
      have hsA : WA.heap.size = w.heap.size + 1 := by rw [hWA, World.size_alloc]
      obtain ⟨WB, hWB⟩ : ∃ WB, WB = WA.alloc (.cells #[.int .i64 k2, .slice o2 ln2 cap2] 24) := ⟨_, rfl⟩
      rw [← hWB]
      have hbB : Bl w WB := by rw [hWB]; exact hbA.alloc _
      have hsB0 : WB.heap.size = w.heap.size + 2 := by rw [hWB, World.size_alloc, hsA]
      obtain ⟨c0, c1⟩ := box2 (W := WA) (W' := WB) (n := w.heap.size + 1) hsA.symm (by rw [hWB]; exact Bl.refl _)
      obtain ⟨W1, hW1⟩ : ∃ W1, W1 = WB.alloc (.cells #[.int .i64 0, .int .i64 0, .int .i64 0, .int .i64 0, .int .i64 0, .int .i64 0, .slice none 0 0] 26) := ⟨_, rfl⟩
      rw [← hW1]
      have hb1 : Bl w W1 := by rw [hW1]; exact hbB.alloc _
      have hBB : Bl WB W1 := by rw [hW1]; exact (Bl.refl _).alloc _
      obtain ⟨z0, z1, z2, z3, z4, z5, z6⟩ := own7b (W := WB) (W' := W1) (n := w.heap.size + 2) hsB0.symm (by rw [hW1]; exact Bl.refl _)
      have fz := own7z (W := WB) (W' := W1) (n := w.heap.size + 2) hsB0.symm (by rw [hW1]; exact Bl.refl _)
      replace c0 := hBB.cell c0
      replace c1 := hBB.cell c1
      have hs1 : W1.heap.size = w.heap.size + 3 := by rw [hW1, World.size_alloc, hsB0]
      have hsz : w.heap.size ≤ w.heap.size + 2 := by omega
      clear hW1 hWA hWB hbA hbB hBB hsA hsB0
      refine (TA.out _ hb1).mono ?_
      rintro e' w2 ⟨rfl, g2'⟩
      have g2 := g2'.bl
      clear g2'
      replace z0 := g2.cell z0
      replace z1 := g2.cell z1
      replace z2 := g2.cell z2
      replace z3 := g2.cell z3
      replace z4 := g2.cell z4
      replace z5 := g2.cell z5
      replace z6 := g2.cell z6
      replace c0 := g2.cell c0
      replace c1 := g2.cell c1
      replace fz : ∀ j, w2.frozen? ⟨w.heap.size + 2, j, none⟩ = false := fun j => by rw [g2.frozen (by simp only; omega)]; exact fz j
      have hb2 : Bl w w2 := hb1.trans g2
      have hs2 : w.heap.size + 2 < w2.heap.size := by have := g2.size; omega
      clear g2 hb1 hs1
      go_wp2_with fail
      refine (TC.out _ (hb2.alloc _)).mono ?_
      rintro e' w3 ⟨rfl, g3'⟩
      have g3 := g3'.bl
      clear g3'
      have g23 : Bl w2 w3 := ((Bl.refl w2).alloc _).trans g3
      replace z0 := g23.cell z0
      replace z1 := g23.cell z1
      replace z2 := g23.cell z2
      replace z3 := g23.cell z3
      replace z4 := g23.cell z4
      replace z5 := g23.cell z5
      replace z6 := g23.cell z6
      replace c0 := g23.cell c0
      replace c1 := g23.cell c1
      replace fz : ∀ j, w3.frozen? ⟨w.heap.size + 2, j, none⟩ = false := fun j => by rw [g23.frozen (by simp only; omega)]; exact fz j
      have hb3 : Bl w w3 := hb2.trans g23
      clear g3 g23
      go_wp2_with fail
      refine bodyPost_ret (v := .tuple #[.agg #[.int .i64 0, .int .i64 0, .int .i64 0, .int .i64 0, .int .i64 0, .int .i64 0, .slice none 0 0], .int .i64 cc]) (by simp [results, Tryd.results9, go_sem, z0, z1, z2, z3, z4, z5, z6]) rfl ?_
      exact ⟨.slice none 0 0, rfl, Or.inl ⟨_, _, rfl, rfl⟩, (by (repeat (first | with_reducible assumption | with_reducible refine Bl.setCell ?_ hsz _)); done)⟩
  · have haxb : (ax != 0) = true := by simpa using hax
    have e0 : Hid ((if ax ≠ 0 then ax else cc) = ax) := if_pos hax
    refine Calls.mono (R := PTu ax 0 0 0 0 0 0 [] w) ?_ (fun en w' hp => ⟨fun hz => absurd (by rw [e0.out] at hz; exact hz) hax, fun _ => by rw [e0.out]; exact hp⟩)
    clear hax HL TC TY e0
    unfold PTu
    go_enter Tryd.func9, Tryd.ntmps9
    go_wp2_with fail
    obtain ⟨WA, hWA⟩ : ∃ WA, WA = w.alloc (.cells #[.int .i64 F, .int .i64 T, .int .i64 S, .int .i64 Dl, .int .i64 Tm, .int .i64 k, .slice o ln cap] 26) := ⟨_, rfl⟩
    rw [← hWA]
    have hbA : Bl w WA := by rw [hWA]; exact (Bl.refl w).alloc _
    have hsA : WA.heap.size = w.heap.size + 1 := by rw [hWA, World.size_alloc]
    obtain ⟨WB, hWB⟩ : ∃ WB, WB = WA.alloc (.cells #[.int .i64 k2, .slice o2 ln2 cap2] 24) := ⟨_, rfl⟩
    rw [← hWB]
    have hbB : Bl w WB := by rw [hWB]; exact hbA.alloc _
    have hsB0 : WB.heap.size = w.heap.size + 2 := by rw [hWB, World.size_alloc, hsA]
    obtain ⟨c0, c1⟩ := box2 (W := WA) (W' := WB) (n := w.heap.size + 1) hsA.symm (by rw [hWB]; exact Bl.refl _)
    obtain ⟨W1, hW1⟩ : ∃ W1, W1 = WB.alloc (.cells #[.int .i64 0, .int .i64 0, .int .i64 0, .int .i64 0, .int .i64 0, .int .i64 0, .slice none 0 0] 26) := ⟨_, rfl⟩
    rw [← hW1]
    have hb1 : Bl w W1 := by rw [hW1]; exact hbB.alloc _
    have hBB : Bl WB W1 := by rw [hW1]; exact (Bl.refl _).alloc _
    obtain ⟨z0, z1, z2, z3, z4, z5, z6⟩ := own7b (W := WB) (W' := W1) (n := w.heap.size + 2) hsB0.symm (by rw [hW1]; exact Bl.refl _)
    have fz := own7z (W := WB) (W' := W1) (n := w.heap.size + 2) hsB0.symm (by rw [hW1]; exact Bl.refl _)
    replace c0 := hBB.cell c0
    replace c1 := hBB.cell c1
    have hs1 : W1.heap.size = w.heap.size + 3 := by rw [hW1, World.size_alloc, hsB0]
    have hsz : w.heap.size ≤ w.heap.size + 2 := by omega
    clear hW1 hWA hWB hbA hbB hBB hsA hsB0
    refine (TA.out _ hb1).mono ?_
    rintro e' w2 ⟨rfl, g2'⟩
    have g2 := g2'.bl
    clear g2'
    replace z0 := g2.cell z0
    replace z1 := g2.cell z1
    replace z2 := g2.cell z2
    replace z3 := g2.cell z3
    replace z4 := g2.cell z4
    replace z5 := g2.cell z5
    replace z6 := g2.cell z6
    replace c0 := g2.cell c0
    replace c1 := g2.cell c1
    replace fz : ∀ j, w2.frozen? ⟨w.heap.size + 2, j, none⟩ = false := fun j => by rw [g2.frozen (by simp only; omega)]; exact fz j
    have hb2 : Bl w w2 := hb1.trans g2
    have hs2 : w.heap.size + 2 < w2.heap.size := by have := g2.size; omega
    clear g2 hb1 hs1
    go_wp2_with fail
    refine bodyPost_ret (v := .tuple #[.agg #[.int .i64 0, .int .i64 0, .int .i64 0, .int .i64 0, .int .i64 0, .int .i64 0, .slice none 0 0], .int .i64 ax]) (by simp [results, Tryd.results9, go_sem, z0, z1, z2, z3, z4, z5, z6]) rfl ?_
    exact ⟨.slice none 0 0, rfl, Or.inl ⟨_, _, rfl, rfl⟩, (by (repeat (first | with_reducible assumption | with_reducible refine Bl.setCell ?_ hsz _)); done)⟩
end Go.Proofs.YtbmficaefnkepaaDoor
