/- Between of the reference: all ways, with all errors. -/
import Derived.Test.YtdmpdcggepfaiaaRefB4
namespace Go.Proofs.Ytdmpdcggepfaiaa
open Go.RowKit Go.Sort

set_option maxRecDepth 100000 in
set_option maxHeartbeats 6400000 in
theorem between_ref3 (k r g b x y z p q : Int) (w : World) :
    Calls Try.prog 17 #[.agg #[.int .i64 r, .int .i64 g, .int .i64 b], .agg #[.int .i64 x, .int .i64 y, .int .i64 z], .int .i64 k, .int .i64 p, .int .i64 q] w fun e w' =>
      e = .returned (.tuple #[.agg #[.int .i64 (betV k r g b x y z p q).1, .int .i64 (betV k r g b x y z p q).2.1, .int .i64 (betV k r g b x y z p q).2.2], .int .i64 (betX k r g b x y z p q)]) ∧ Bl w w' := by
  have hC := fun w => both_ref3b r g b x y z w
  have HK := Lib.hid (fun w' (m : Bl (((w.alloc (.cells #[.int .i64 r, .int .i64 g, .int .i64 b] 23)).alloc (.cells #[.int .i64 x, .int .i64 y, .int .i64 z] 23)).alloc (.cells #[.int .i64 0, .int .i64 0, .int .i64 0] 23)) w') =>
    (show (Cel3 w' w.heap.size r g b ∧ Cel3 w' (w.heap.size + 1) x y z) ∧ Cel3 w' (w.heap.size + 1 + 1) 0 0 0 ∧ w'.frozen? ⟨w.heap.size + 1 + 1, 0, none⟩ = false ∧ w'.frozen? ⟨w.heap.size + 1 + 1, 1, none⟩ = false ∧ w'.frozen? ⟨w.heap.size + 1 + 1, 2, none⟩ = false from by
      obtain ⟨a, _⟩ := own3b (n := w.heap.size) rfl ((((Bl.refl (w.alloc (.cells #[.int .i64 r, .int .i64 g, .int .i64 b] 23))).alloc _).alloc _).trans m)
      obtain ⟨c, _⟩ := own3b (n := w.heap.size + 1) (by simp) (((Bl.refl ((w.alloc (.cells #[.int .i64 r, .int .i64 g, .int .i64 b] 23)).alloc (.cells #[.int .i64 x, .int .i64 y, .int .i64 z] 23))).alloc _).trans m)
      obtain ⟨d, f⟩ := own3b (n := w.heap.size + 1 + 1) (by simp) m
      exact ⟨⟨a, c⟩, d, f⟩))
  have h0 : Bl w (((w.alloc (.cells #[.int .i64 r, .int .i64 g, .int .i64 b] 23)).alloc (.cells #[.int .i64 x, .int .i64 y, .int .i64 z] 23)).alloc (.cells #[.int .i64 0, .int .i64 0, .int .i64 0] 23)) := (((Bl.refl w).alloc _).alloc _).alloc _
  have hv0 : betV k r g b x y z p q = if (isCol r g b && isCol x y z) = false then (0, 0, 0) else if ¬(1 ≤ k ∧ k ≤ 3) then (0, 0, 0) else if isPt p q = false then (0, 0, 0) else if p = 0 then (r, g, b) else if p = q then (x, y, z) else btwC k r g b x y z p q := rfl
  have hx0 : betX k r g b x y z p q = if (isCol r g b && isCol x y z) = false then 1 else if ¬(1 ≤ k ∧ k ≤ 3) then 4 else if isPt p q = false then 1 else 0 := rfl
  generalize betV k r g b x y z p q = V at *
  generalize betX k r g b x y z p q = X at *
  cases hab : (isCol r g b && isCol x y z) with
  | false =>
    rw [hab] at hC
    have hv : Hid (V = (0, 0, 0) ∧ X = 1) := by show _ ∧ _; rw [hv0, hx0, if_pos hab, if_pos hab]; exact ⟨rfl, rfl⟩
    have HC := Lib.hid hC
    clear hC hv0 hx0 hab
    rw [hv.out.1, hv.out.2]
    go_enter Try.func17, Try.ntmps17
    go_wp2_with fail
    refine (HC.out _).mono ?_
    rintro e w1 ⟨rfl, gl⟩
    obtain ⟨⟨⟨c0, c1, c2⟩, d0, d1, d2⟩, ⟨k0, k1, k2⟩, f0, f1, f2⟩ := HK.out _ gl
    go_wp2_with fail
    refine bodyPost_ret (v := .tuple #[.agg #[.int .i64 0, .int .i64 0, .int .i64 0], .int .i64 1]) ?_ rfl ⟨rfl, ?_⟩
    · simp [results, Try.results17, go_sem, k0, k1, k2]
    · exact set3b (by omega) (h0.trans gl) _ _ _
  | true =>
    have hab0 := hab
    rw [hab] at hC
    have HC := Lib.hid hC
    rw [if_neg (by rw [hab]; decide)] at hv0 hx0
    clear hC hab
    by_cases hk : 1 ≤ k ∧ k ≤ 3
    · rw [if_neg (by simpa using hk)] at hv0 hx0
      have W1 := Lib.hid (within_is k 1 3 true (by rw [decide_eq_true hk.1, decide_eq_true hk.2]; rfl))
      cases hp : isPt p q with
      | false =>
        have hv : Hid (V = (0, 0, 0) ∧ X = 1) := by show _ ∧ _; rw [hv0, hx0, if_pos hp, if_pos hp]; exact ⟨rfl, rfl⟩
        rw [hv.out.1, hv.out.2]
        cases hq : (decide (1 ≤ q) && decide (q ≤ 36000000)) with
        | false =>
          have W2 := Lib.hid (within_is q 1 36000000 false hq)
          clear hv0 hx0 hp hk hq hab0
          go_enter Try.func17, Try.ntmps17
          go_wp2_with fail
          refine (HC.out _).mono ?_
          rintro e w1 ⟨rfl, gl⟩
          go_wp2_with fail
          refine (W1.out _).mono ?_
          rintro e w' ⟨rfl, rfl⟩
          go_wp2_with fail
          refine (W2.out _).mono ?_
          rintro e w' ⟨rfl, rfl⟩
          obtain ⟨⟨⟨c0, c1, c2⟩, d0, d1, d2⟩, ⟨k0, k1, k2⟩, f0, f1, f2⟩ := HK.out _ gl
          go_wp2_with fail
          refine bodyPost_ret (v := .tuple #[.agg #[.int .i64 0, .int .i64 0, .int .i64 0], .int .i64 1]) ?_ rfl ⟨rfl, ?_⟩
          · simp [results, Try.results17, go_sem, k0, k1, k2]
          · exact set3b (by omega) (h0.trans gl) _ _ _
        | true =>
          have W2 := Lib.hid (within_is q 1 36000000 true hq)
          have W3 := Lib.hid (within_is p 0 q false (by
            unfold isPt at hp
            rw [hq, Bool.true_and] at hp
            exact hp))
          clear hv0 hx0 hp hk hq hab0
          go_enter Try.func17, Try.ntmps17
          go_wp2_with fail
          refine (HC.out _).mono ?_
          rintro e w1 ⟨rfl, gl⟩
          go_wp2_with fail
          refine (W1.out _).mono ?_
          rintro e w' ⟨rfl, rfl⟩
          go_wp2_with fail
          refine (W2.out _).mono ?_
          rintro e w' ⟨rfl, rfl⟩
          go_wp2_with fail
          refine (W3.out _).mono ?_
          rintro e w' ⟨rfl, rfl⟩
          obtain ⟨⟨⟨c0, c1, c2⟩, d0, d1, d2⟩, ⟨k0, k1, k2⟩, f0, f1, f2⟩ := HK.out _ gl
          go_wp2_with fail
          refine bodyPost_ret (v := .tuple #[.agg #[.int .i64 0, .int .i64 0, .int .i64 0], .int .i64 1]) ?_ rfl ⟨rfl, ?_⟩
          · simp [results, Try.results17, go_sem, k0, k1, k2]
          · exact set3b (by omega) (h0.trans gl) _ _ _
      | true =>
        rw [if_neg (by rw [hp]; decide)] at hv0 hx0
        obtain ⟨q0, q1, p0, p1⟩ := isPt_iff.1 hp
        have W2 := Lib.hid (within_is q 1 36000000 true (by rw [decide_eq_true q0, decide_eq_true q1]; rfl))
        have W3 := Lib.hid (within_is p 0 q true (by rw [decide_eq_true p0, decide_eq_true p1]; rfl))
        by_cases hp0 : p = 0
        · have hv : Hid (V = (r, g, b) ∧ X = 0) := by show _ ∧ _; rw [hv0, hx0, if_pos hp0]; exact ⟨rfl, rfl⟩
          have t1 : (p == 0) = true := by simpa using hp0
          clear hv0 hx0 hp0 hp hk hab0
          rw [hv.out.1, hv.out.2]
          go_enter Try.func17, Try.ntmps17
          go_wp2_with fail
          refine (HC.out _).mono ?_
          rintro e w1 ⟨rfl, gl⟩
          go_wp2_with fail
          refine (W1.out _).mono ?_
          rintro e w' ⟨rfl, rfl⟩
          go_wp2_with fail
          refine (W2.out _).mono ?_
          rintro e w' ⟨rfl, rfl⟩
          go_wp2_with fail
          refine (W3.out _).mono ?_
          rintro e w' ⟨rfl, rfl⟩
          obtain ⟨⟨⟨c0, c1, c2⟩, d0, d1, d2⟩, ⟨k0, k1, k2⟩, f0, f1, f2⟩ := HK.out _ gl
          go_wp2_with fail
          refine bodyPost_ret (v := .tuple #[.agg #[.int .i64 r, .int .i64 g, .int .i64 b], .int .i64 0]) ?_ rfl ⟨rfl, ?_⟩
          · simp [results, Try.results17, go_sem, k0, k1, k2]
          · exact set3b (by omega) (h0.trans gl) _ _ _
        · have t1 : (p == 0) = false := by simpa using hp0
          rw [if_neg hp0] at hv0
          by_cases hpq : p = q
          · have hv : Hid (V = (x, y, z) ∧ X = 0) := by show _ ∧ _; rw [hv0, hx0, if_pos hpq]; exact ⟨rfl, rfl⟩
            have t2 : (p == q) = true := by simpa using hpq
            clear hv0 hx0 hpq hp0 hp hk hab0
            rw [hv.out.1, hv.out.2]
            go_enter Try.func17, Try.ntmps17
            go_wp2_with fail
            refine (HC.out _).mono ?_
            rintro e w1 ⟨rfl, gl⟩
            go_wp2_with fail
            refine (W1.out _).mono ?_
            rintro e w' ⟨rfl, rfl⟩
            go_wp2_with fail
            refine (W2.out _).mono ?_
            rintro e w' ⟨rfl, rfl⟩
            go_wp2_with fail
            refine (W3.out _).mono ?_
            rintro e w' ⟨rfl, rfl⟩
            obtain ⟨⟨⟨c0, c1, c2⟩, d0, d1, d2⟩, ⟨k0, k1, k2⟩, f0, f1, f2⟩ := HK.out _ gl
            go_wp2_with fail
            refine bodyPost_ret (v := .tuple #[.agg #[.int .i64 x, .int .i64 y, .int .i64 z], .int .i64 0]) ?_ rfl ⟨rfl, ?_⟩
            · simp [results, Try.results17, go_sem, k0, k1, k2]
            · exact set3b (by omega) (h0.trans gl) _ _ _
          · rw [if_neg hpq] at hv0
            by_cases hk1 : k = 1
            · have hv : Hid (V = (mxV r x p q, mxV g y p q, mxV b z p q) ∧ X = 0) := by show _ ∧ _; rw [hv0, hx0]; unfold btwC; rw [if_pos hk1]; exact ⟨rfl, rfl⟩
              have t2 : (p == q) = false := by simpa using hpq
              have t3 : (k == 1) = true := by simpa using hk1
              have M1 := Lib.hid (fun w => mix_ref2 r x p q w)
              have M2 := Lib.hid (fun w => mix_ref2 g y p q w)
              have M3 := Lib.hid (fun w => mix_ref2 b z p q w)
              clear hv0 hx0 hpq hp0 hp hk hk1 hab0
              rw [hv.out.1, hv.out.2]
              generalize mxV r x p q = X1 at *
              generalize mxV g y p q = X2 at *
              generalize mxV b z p q = X3 at *
              go_enter Try.func17, Try.ntmps17
              go_wp2_with fail
              refine (HC.out _).mono ?_
              rintro e w1 ⟨rfl, gl⟩
              go_wp2_with fail
              refine (W1.out _).mono ?_
              rintro e w' ⟨rfl, rfl⟩
              go_wp2_with fail
              refine (W2.out _).mono ?_
              rintro e w' ⟨rfl, rfl⟩
              go_wp2_with fail
              refine (W3.out _).mono ?_
              rintro e w' ⟨rfl, rfl⟩
              obtain ⟨⟨⟨c0, c1, c2⟩, d0, d1, d2⟩, ⟨k0, k1, k2⟩, f0, f1, f2⟩ := HK.out _ gl
              go_wp2_with fail
              refine (M1.out _).mono ?_
              rintro e w2 ⟨rfl, g2⟩
              replace gl := gl.trans g2
              clear c0 c1 c2 d0 d1 d2 k0 k1 k2 f0 f1 f2
              obtain ⟨⟨⟨c0, c1, c2⟩, d0, d1, d2⟩, ⟨k0, k1, k2⟩, f0, f1, f2⟩ := HK.out _ gl
              go_wp2_with fail
              refine (M2.out _).mono ?_
              rintro e w3 ⟨rfl, g3⟩
              replace gl := gl.trans g3
              clear c0 c1 c2 d0 d1 d2 k0 k1 k2 f0 f1 f2
              obtain ⟨⟨⟨c0, c1, c2⟩, d0, d1, d2⟩, ⟨k0, k1, k2⟩, f0, f1, f2⟩ := HK.out _ gl
              go_wp2_with fail
              refine (M3.out _).mono ?_
              rintro e w4 ⟨rfl, g4⟩
              replace gl := gl.trans g4
              clear c0 c1 c2 d0 d1 d2 k0 k1 k2 f0 f1 f2
              obtain ⟨⟨⟨c0, c1, c2⟩, d0, d1, d2⟩, ⟨k0, k1, k2⟩, f0, f1, f2⟩ := HK.out _ gl
              go_wp2_with fail
              refine bodyPost_ret (v := .tuple #[.agg #[.int .i64 X1, .int .i64 X2, .int .i64 X3], .int .i64 0]) ?_ rfl ⟨rfl, ?_⟩
              · simp [results, Try.results17, go_sem, k0, k1, k2]
              · exact set3b (by omega) (h0.trans gl) _ _ _
            · have h := between_ref3_mid k r g b x y z p q w hab0 (by omega) hp hp0 hpq
              rw [hv0, hx0]
              exact h
    · have W1 := Lib.hid (within_is k 1 3 false (by rw [Bool.eq_false_iff]; intro h; rw [Bool.and_eq_true, decide_eq_true_eq, decide_eq_true_eq] at h; exact hk h))
      have hv : Hid (V = (0, 0, 0) ∧ X = 4) := by show _ ∧ _; rw [hv0, hx0, if_pos hk, if_pos hk]; exact ⟨rfl, rfl⟩
      clear hv0 hx0 hk hab0
      rw [hv.out.1, hv.out.2]
      go_enter Try.func17, Try.ntmps17
      go_wp2_with fail
      refine (HC.out _).mono ?_
      rintro e w1 ⟨rfl, gl⟩
      go_wp2_with fail
      refine (W1.out _).mono ?_
      rintro e w' ⟨rfl, rfl⟩
      obtain ⟨⟨⟨c0, c1, c2⟩, d0, d1, d2⟩, ⟨k0, k1, k2⟩, f0, f1, f2⟩ := HK.out _ gl
      go_wp2_with fail
      refine bodyPost_ret (v := .tuple #[.agg #[.int .i64 0, .int .i64 0, .int .i64 0], .int .i64 4]) ?_ rfl ⟨rfl, ?_⟩
      · simp [results, Try.results17, go_sem, k0, k1, k2]
      · exact set3b (by omega) (h0.trans gl) _ _ _
end Go.Proofs.Ytdmpdcggepfaiaa
