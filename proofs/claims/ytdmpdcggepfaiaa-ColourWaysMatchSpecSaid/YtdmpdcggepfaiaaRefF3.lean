/- The reference of chapter 3: the colour of a tone. -/
import Derived.Test.YtdmpdcggepfaiaaRefT3
namespace Go.Proofs.Ytdmpdcggepfaiaa
open Go.RowKit

theorem rdv_scale {n d c : Int} (hd : 0 < d) (hc : 0 < c) : rdv (n * c) (d * c) = rdv n d := by
  have hdc : 0 < d * c := Int.mul_pos hd hc
  have h1 := rdv_lo (n := n) hd
  have h2 := rdv_hi (n := n) hd
  generalize rdv n d = k at *
  apply Int.le_antisymm
  · apply rdv_le hdc
    have := Int.mul_lt_mul_of_pos_right h2 hc
    have e1 : (2 * n + d) * c = 2 * (n * c) + d * c := by grind
    have e2 : (k + 1) * (2 * d) * c = (k + 1) * (2 * (d * c)) := by grind
    omega
  · apply le_rdv hdc
    have := Int.mul_le_mul_of_nonneg_right h1 (Int.le_of_lt hc)
    have e1 : (2 * n + d) * c = 2 * (n * c) + d * c := by grind
    have e2 : k * (2 * d) * c = k * (2 * (d * c)) := by grind
    omega
theorem least_eq (V S : Int) : rdv (V * (65535 - S)) 65535 = lessV V S 65535 := by
  unfold lessV
  have e : V * (4294836225 - S * 65535) = V * (65535 - S) * 65535 := by
    have : (4294836225 : Int) - S * 65535 = (65535 - S) * 65535 := by omega
    rw [this, Int.mul_assoc]
  rw [e]
  exact (rdv_scale (n := V * (65535 - S)) (d := 65535) (c := 65535) (by omega) (by omega)).symm

set_option maxRecDepth 100000 in
set_option maxHeartbeats 6400000 in
theorem from3_ref (H S V : Int) (w : World) (h0 : 0 ≤ H) (h1 : H ≤ 393209) (s0 : 0 ≤ S) (s1 : S ≤ 65535) (v0 : 0 ≤ V) (v1 : V ≤ 65535) :
    Calls Try.prog 24 #[.agg #[.int .i64 H, .int .i64 S, .int .i64 V]] w fun e w' => e = .returned (.agg #[.int .i64 (fromT H S V).1, .int .i64 (fromT H S V).2.1, .int .i64 (fromT H S V).2.2]) ∧ Bl w w' := by
  have f0 : 0 ≤ H % 65535 := by omega
  have f1 : H % 65535 ≤ 65535 := by omega
  have f2 : 0 ≤ 65535 - H % 65535 := by omega
  have f3 : 65535 - H % 65535 ≤ 65535 := by omega
  have s2 : 0 ≤ 65535 - S := by omega
  have s3 : 65535 - S ≤ 65535 := by omega
  obtain ⟨p0, p1, p2, p3⟩ := less_bd v0 v1 s0 s1 f0 f1
  obtain ⟨r0, r1, r2, r3⟩ := less_bd v0 v1 s0 s1 f2 f3
  have q0 : 0 ≤ V * (65535 - S) := Int.mul_nonneg v0 s2
  have q1 : V * (65535 - S) ≤ 4294836225 := by have := Int.mul_le_mul v1 s3 s2 (by omega); omega
  have H1 := Lib.hid (fun w => signed_ref (V * (65535 - S)) 65535 w (by omega) (by omega) (by omega) (by omega))
  rw [least_eq] at H1
  have H2 := Lib.hid (fun w => signed_ref (V * (4294836225 - S * (H % 65535))) 4294836225 w (by omega) (by omega) (by omega) (by omega))
  have H3 := Lib.hid (fun w => signed_ref (V * (4294836225 - S * (65535 - H % 65535))) 4294836225 w (by omega) (by omega) (by omega) (by omega))
  have key : Hid (∃ k x y z, (k = 0 ∨ k = 1 ∨ k = 2 ∨ k = 3 ∨ k = 4 ∨ k = 5) ∧ H / 65535 = k ∧ fromT H S V = (x, y, z) ∧ (x, y, z) = col k (H % 65535) S V) :=
    ⟨H / 65535, (fromT H S V).1, (fromT H S V).2.1, (fromT H S V).2.2, by omega, rfl, rfl, rfl⟩
  have e1 : rdv (V * (4294836225 - S * (H % 65535))) 4294836225 = lessV V S (H % 65535) := rfl
  have e2 : rdv (V * (4294836225 - S * (65535 - H % 65535))) 4294836225 = lessV V S (65535 - H % 65535) := rfl
  rw [e1] at H2
  rw [e2] at H3
  have w1 : IntKind.i64.wrap (V * (65535 - S)) = V * (65535 - S) := IntWalk.i64_in _ (by omega)
  have w2 : IntKind.i64.wrap (S * (H % 65535)) = S * (H % 65535) := IntWalk.i64_in _ (by omega)
  have w3 : IntKind.i64.wrap (S * (65535 - H % 65535)) = S * (65535 - H % 65535) := IntWalk.i64_in _ (by omega)
  have w4 : IntKind.i64.wrap (V * (4294836225 - S * (H % 65535))) = V * (4294836225 - S * (H % 65535)) := IntWalk.i64_in _ (by omega)
  have w5 : IntKind.i64.wrap (V * (4294836225 - S * (65535 - H % 65535))) = V * (4294836225 - S * (65535 - H % 65535)) := IntWalk.i64_in _ (by omega)
  obtain ⟨k, x, y, z, hk, hq, hT, hc⟩ := key.out
  have HT := Lib.hid hT
  have HC := Lib.hid hc
  clear key hT hc e1 e2
  have hKb : Hid (∀ w', Bl ((w.alloc (.cells #[.int .i64 H, .int .i64 S, .int .i64 V] 25)).alloc (.cells #[.int .i64 0, .int .i64 0, .int .i64 0] 23)) w' → (w'.cell? ⟨w.heap.size, 0, none⟩ = some (.int .i64 H) ∧ w'.cell? ⟨w.heap.size, 1, none⟩ = some (.int .i64 S) ∧ w'.cell? ⟨w.heap.size, 2, none⟩ = some (.int .i64 V)) ∧
      (w'.cell? ⟨w.heap.size + 1, 0, none⟩ = some (.int .i64 0) ∧ w'.cell? ⟨w.heap.size + 1, 1, none⟩ = some (.int .i64 0) ∧ w'.cell? ⟨w.heap.size + 1, 2, none⟩ = some (.int .i64 0)) ∧ w'.frozen? ⟨w.heap.size + 1, 0, none⟩ = false ∧ w'.frozen? ⟨w.heap.size + 1, 1, none⟩ = false ∧ w'.frozen? ⟨w.heap.size + 1, 2, none⟩ = false) := fun w' m =>
    ⟨(own3b (n := w.heap.size) rfl (((Bl.refl (w.alloc (.cells #[.int .i64 H, .int .i64 S, .int .i64 V] 25))).alloc _).trans m)).1, own3b (n := w.heap.size + 1) (by simp) m⟩
  rcases hk with rfl | rfl | rfl | rfl | rfl | rfl
  all_goals
    go_enter Try.func24, Try.ntmps24
    go_wp2
    go_quiet (fail)
    go_wp2_with fail
    refine (H1.out _).mono ?_
    rintro e w1 ⟨rfl, g1⟩
    have g1' := ((Bl.refl ((w.alloc (.cells #[.int .i64 H, .int .i64 S, .int .i64 V] 25)).alloc (.cells #[.int .i64 0, .int .i64 0, .int .i64 0] 23))).drewN nq).trans g1
    obtain ⟨⟨a0, a1, a2⟩, _⟩ := hKb.out _ g1'
    go_wp2_with fail
    refine (H2.out _).mono ?_
    rintro e w2 ⟨rfl, g2⟩
    clear a0 a1 a2
    obtain ⟨⟨a0, a1, a2⟩, _⟩ := hKb.out _ (g1'.trans g2)
    go_wp2_with fail
    refine (H3.out _).mono ?_
    rintro e w3 ⟨rfl, g3⟩
    clear a0 a1 a2
    obtain ⟨_, ⟨k0, k1, k2⟩, f0, f1, f2⟩ := hKb.out _ ((g1'.trans g2).trans g3)
    go_wp2_with fail
    refine bodyPost_ret (v := .agg #[.int .i64 (fromT H S V).1, .int .i64 (fromT H S V).2.1, .int .i64 (fromT H S V).2.2]) ?_ rfl ⟨rfl, ?_⟩
    · rw [HT.out, HC.out]; simp [results, Try.results24, go_sem, col, k0, k1, k2]
    · exact set3b (by simp) ((((Bl.refl w).alloc _).alloc _).trans ((g1'.trans g2).trans g3)) _ _ _

theorem within_is (n lo hi : Int) (v : Bool) (h : (decide (lo ≤ n) && decide (n ≤ hi)) = v) (w : World) :
    Calls Try.prog 22 #[.int .i64 n, .int .i64 lo, .int .i64 hi] w fun e w' => e = .returned (.bool v) ∧ w = w' := by
  subst h; exact within_any n lo hi w

set_option maxHeartbeats 3200000 in
theorem FromTone_okR (H S V : Int) (w : World) (h : isTon H S V = true) :
    Calls Try.prog 10 #[.agg #[.int .i64 H, .int .i64 S, .int .i64 V]] w fun e w' => e = .returned (.tuple #[.agg #[.int .i64 (fromT H S V).1, .int .i64 (fromT H S V).2.1, .int .i64 (fromT H S V).2.2], .int .i64 0]) ∧ Bl w w' := by
  obtain ⟨⟨h0, h1⟩, ⟨s0, s1⟩, v0, v1⟩ := isTon_iff.1 h
  have HW := Lib.hid (within_is H 0 393209 true (by rw [decide_eq_true h0, decide_eq_true h1]; rfl))
  have HS := Lib.hid (isLevel_isR S true (isLev_iff.2 ⟨s0, s1⟩))
  have HV := Lib.hid (isLevel_isR V true (isLev_iff.2 ⟨v0, v1⟩))
  have HT := Lib.hid (fun w => from3_ref H S V w h0 h1 s0 s1 v0 v1)
  clear h
  generalize fromT H S V = T at *
  go_enter Try.func10, Try.ntmps10
  go_wp2_with (first | (go_at_call 22; (with_reducible refine (HW.out _).mono ?_); rintro e w' ⟨rfl, rfl⟩) | (go_at_call 23; (first | ((with_reducible refine (HS.out _).mono ?_); rintro e w' ⟨rfl, rfl⟩) | ((with_reducible refine (HV.out _).mono ?_); rintro e w' ⟨rfl, rfl⟩))) | (go_at_call 24; ((with_reducible refine (HT.out _).mono ?_); rintro e w2 ⟨rfl, g2⟩; obtain ⟨⟨k0, k1, k2⟩, f0, f1, f2⟩ := own3b (n := w.heap.size + 1) (by simp) g2)))
  refine bodyPost_ret (v := .tuple #[.agg #[.int .i64 T.1, .int .i64 T.2.1, .int .i64 T.2.2], .int .i64 0]) ?_ rfl ⟨rfl, ?_⟩
  · simp [results, Try.results10, go_sem, k0, k1, k2]
  · exact set3b (by simp) ((((Bl.refl w).alloc _).alloc _).trans g2) _ _ _

set_option maxHeartbeats 3200000 in
theorem FromTone_errR (H S V : Int) (w : World) (h : isTon H S V = false) :
    Calls Try.prog 10 #[.agg #[.int .i64 H, .int .i64 S, .int .i64 V]] w fun e w' => e = .returned (.tuple #[.agg #[.int .i64 0, .int .i64 0, .int .i64 0], .int .i64 1]) ∧ Bl w w' := by
  unfold isTon at h
  cases hw : (decide (0 ≤ H) && decide (H ≤ 393209)) with
  | false =>
    have HW := Lib.hid (within_is H 0 393209 false hw)
    clear h hw
    go_enter Try.func10, Try.ntmps10
    go_wp2_with (go_at_call 22; (with_reducible refine (HW.out _).mono ?_); rintro e w' ⟨rfl, rfl⟩)
    refine bodyPost_ret (v := .tuple #[.agg #[.int .i64 0, .int .i64 0, .int .i64 0], .int .i64 1]) ?_ rfl ⟨rfl, ?_⟩
    · simp [results, Try.results10, go_sem]
    · exact ((Bl.refl w).alloc _).alloc _
  | true =>
    have HW := Lib.hid (within_is H 0 393209 true hw)
    rw [hw, Bool.true_and] at h
    cases hS : isLev S with
    | false =>
      have HS := Lib.hid (isLevel_isR S false hS)
      clear h hw hS
      go_enter Try.func10, Try.ntmps10
      go_wp2_with (first | (go_at_call 22; (with_reducible refine (HW.out _).mono ?_); rintro e w' ⟨rfl, rfl⟩) | (go_at_call 23; (with_reducible refine (HS.out _).mono ?_); rintro e w' ⟨rfl, rfl⟩))
      refine bodyPost_ret (v := .tuple #[.agg #[.int .i64 0, .int .i64 0, .int .i64 0], .int .i64 1]) ?_ rfl ⟨rfl, ?_⟩
      · simp [results, Try.results10, go_sem]
      · exact ((Bl.refl w).alloc _).alloc _
    | true =>
      rw [hS, Bool.true_and] at h
      have HS := Lib.hid (isLevel_isR S true hS)
      have HV := Lib.hid (isLevel_isR V false h)
      clear h hw hS
      go_enter Try.func10, Try.ntmps10
      go_wp2_with (first | (go_at_call 22; (with_reducible refine (HW.out _).mono ?_); rintro e w' ⟨rfl, rfl⟩) | (go_at_call 23; (first | ((with_reducible refine (HS.out _).mono ?_); rintro e w' ⟨rfl, rfl⟩) | ((with_reducible refine (HV.out _).mono ?_); rintro e w' ⟨rfl, rfl⟩))))
      refine bodyPost_ret (v := .tuple #[.agg #[.int .i64 0, .int .i64 0, .int .i64 0], .int .i64 1]) ?_ rfl ⟨rfl, ?_⟩
      · simp [results, Try.results10, go_sem]
      · exact ((Bl.refl w).alloc _).alloc _

theorem FromTone_ref (H S V : Int) (w : World) :
    Calls Try.prog 10 #[.agg #[.int .i64 H, .int .i64 S, .int .i64 V]] w fun e w' => e = .returned (.tuple #[.agg #[.int .i64 (fromR H S V).1, .int .i64 (fromR H S V).2.1, .int .i64 (fromR H S V).2.2], .int .i64 (if isTon H S V = true then 0 else 1)]) ∧ Bl w w' := by
  unfold fromR
  cases h : isTon H S V with
  | true => exact FromTone_okR H S V w h
  | false => exact FromTone_errR H S V w h
end Go.Proofs.Ytdmpdcggepfaiaa
