/- The reference of chapter 3: Check, tones. -/
import Derived.Test.YtdmpdcggepfaiaaRefC3
import Derived.Test.YtdmpdcggepfaiaaToneS
namespace Go.Proofs.Ytdmpdcggepfaiaa
open Go.RowKit

/-- The cells of a local of three cells, behind calls of the reference. -/
theorem own3b {W W' : World} {n : Nat} {a b c : Value} {t : TypeId} (hn : n = W.heap.size) (h : Bl (W.alloc (.cells #[a, b, c] t)) W') :
    (W'.cell? ⟨n, 0, none⟩ = some a ∧ W'.cell? ⟨n, 1, none⟩ = some b ∧ W'.cell? ⟨n, 2, none⟩ = some c) ∧ W'.frozen? ⟨n, 0, none⟩ = false ∧ W'.frozen? ⟨n, 1, none⟩ = false ∧ W'.frozen? ⟨n, 2, none⟩ = false := by
  subst hn
  exact ⟨⟨h.cell (by simp), h.cell (by simp), h.cell (by simp)⟩, by rw [h.frozen (by simp)]; simp, by rw [h.frozen (by simp)]; simp, by rw [h.frozen (by simp)]; simp⟩
theorem set3b {w0 W' : World} {n : Nat} (hn : w0.heap.size ≤ n) (h : Bl w0 W') (x y z : Value) : Bl w0 (((W'.setCell ⟨n, 0, none⟩ x).setCell ⟨n, 1, none⟩ y).setCell ⟨n, 2, none⟩ z) :=
  ((h.setCell (p := ⟨n, 0, none⟩) hn x).setCell (p := ⟨n, 1, none⟩) hn y).setCell (p := ⟨n, 2, none⟩) hn z
theorem isLevel_isR (n : Int) (v : Bool) (h : isLev n = v) (w : World) :
    Calls Try.prog 23 #[.int .i64 n] w fun e w' => e = .returned (.bool v) ∧ w = w' := by
  subst h; exact isLevel_ref n w

set_option maxHeartbeats 800000 in
theorem check_ref3g (r g b : Int) (w : World) :
    Calls Try.prog 12 #[.agg #[.int .i64 r, .int .i64 g, .int .i64 b]] w fun e w' => e = .returned (.int .i64 (ckCol r g b)) ∧ Gr w w' := by
  cases h1 : isLev r with
  | false =>
    have e : Hid (ckCol r g b = 1) := by show _ = _; unfold ckCol isCol; rw [h1]; rfl
    have H1 := Lib.hid (isLevel_isR r _ h1)
    clear h1
    go_enter Try.func12, Try.ntmps12
    go_wp2_with (go_at_call 23; ((with_reducible refine (H1.out _).mono ?_); rintro e w' ⟨rfl, rfl⟩))
    go_returns
    exact ⟨ret_int e.out.symm, (Gr.refl w).alloc _⟩
  | true =>
    have H1 := Lib.hid (isLevel_isR r _ h1)
    cases h2 : isLev g with
    | false =>
      have e : Hid (ckCol r g b = 1) := by show _ = _; unfold ckCol isCol; rw [h1, h2]; rfl
      have H2 := Lib.hid (isLevel_isR g _ h2)
      clear h1 h2
      go_enter Try.func12, Try.ntmps12
      go_wp2_with (go_at_call 23; (first | ((with_reducible refine (H1.out _).mono ?_); rintro e w' ⟨rfl, rfl⟩) | ((with_reducible refine (H2.out _).mono ?_); rintro e w' ⟨rfl, rfl⟩)))
      go_returns
      exact ⟨ret_int e.out.symm, (Gr.refl w).alloc _⟩
    | true =>
      have H2 := Lib.hid (isLevel_isR g _ h2)
      cases h3 : isLev b with
      | false =>
        have e : Hid (ckCol r g b = 1) := by show _ = _; unfold ckCol isCol; rw [h1, h2, h3]; rfl
        have H3 := Lib.hid (isLevel_isR b _ h3)
        clear h1 h2 h3
        go_enter Try.func12, Try.ntmps12
        go_wp2_with (go_at_call 23; (first | ((with_reducible refine (H1.out _).mono ?_); rintro e w' ⟨rfl, rfl⟩) | ((with_reducible refine (H2.out _).mono ?_); rintro e w' ⟨rfl, rfl⟩) | ((with_reducible refine (H3.out _).mono ?_); rintro e w' ⟨rfl, rfl⟩)))
        go_returns
        exact ⟨ret_int e.out.symm, (Gr.refl w).alloc _⟩
      | true =>
        have e : Hid (ckCol r g b = 0) := by show _ = _; unfold ckCol isCol; rw [h1, h2, h3]; rfl
        have H3 := Lib.hid (isLevel_isR b _ h3)
        clear h1 h2 h3
        go_enter Try.func12, Try.ntmps12
        go_wp2_with (go_at_call 23; (first | ((with_reducible refine (H1.out _).mono ?_); rintro e w' ⟨rfl, rfl⟩) | ((with_reducible refine (H2.out _).mono ?_); rintro e w' ⟨rfl, rfl⟩) | ((with_reducible refine (H3.out _).mono ?_); rintro e w' ⟨rfl, rfl⟩)))
        go_returns
        exact ⟨ret_int e.out.symm, (Gr.refl w).alloc _⟩

theorem check_ref3 (r g b : Int) (w : World) :
    Calls Try.prog 12 #[.agg #[.int .i64 r, .int .i64 g, .int .i64 b]] w fun e w' => e = .returned (.int .i64 (ckCol r g b)) ∧ Bl w w' := (check_ref3g r g b w).mono fun _ _ ⟨a, c⟩ => ⟨a, c.bl⟩
theorem rdv_small {x d : Int} (hd : 0 < d) (h1 : -d ≤ x) (h2 : x ≤ d) : -65536 ≤ rdv (x * 65535) d ∧ rdv (x * 65535) d ≤ 65536 := by
  constructor
  · exact le_rdv hd (by omega)
  · apply rdv_le hd; have : (65536 + 1) * (2 * d) = 131074 * d := by omega
    omega
theorem hueC_ref (r g b M d : Int) (hd : 0 < d) :
    hueC r g b M d = (if M = r then rdv ((g - b) * 65535) d else if M = g then rdv ((b - r) * 65535) d + 131070 else rdv ((r - g) * 65535) d + 262140) % 393210 := by
  unfold hueC
  split
  · rw [show (6 * d + (g - b)) * 65535 = (g - b) * 65535 + 393210 * d by omega, rdv_add hd]; omega
  · split
    · rw [show (2 * d + (b - r)) * 65535 = (b - r) * 65535 + 131070 * d by omega, rdv_add hd]
    · rw [show (4 * d + (r - g)) * 65535 = (r - g) * 65535 + 262140 * d by omega, rdv_add hd]

set_option maxRecDepth 100000 in
set_option maxHeartbeats 3200000 in
theorem tone_ref (r g b : Int) (w : World) (hr : 0 ≤ r ∧ r ≤ 65535) (hg : 0 ≤ g ∧ g ≤ 65535) (hb : 0 ≤ b ∧ b ≤ 65535) :
    Calls Try.prog 19 #[.agg #[.int .i64 r, .int .i64 g, .int .i64 b]] w fun e w' => e = .returned (.agg #[.int .i64 (toneC r g b).1, .int .i64 (toneC r g b).2.1, .int .i64 (toneC r g b).2.2]) ∧ Bl w w' := by
  obtain ⟨m1, m2, m3, m4⟩ : mn3 r g b ≤ r ∧ mn3 r g b ≤ g ∧ mn3 r g b ≤ b ∧ (mn3 r g b = r ∨ mn3 r g b = g ∨ mn3 r g b = b) := by unfold mn3; omega
  obtain ⟨x1, x2, x3, x4⟩ : r ≤ mx3 r g b ∧ g ≤ mx3 r g b ∧ b ≤ mx3 r g b ∧ (mx3 r g b = r ∨ mx3 r g b = g ∨ mx3 r g b = b) := by unfold mx3; omega
  have hmx := fun w ts t => run_mx3 ts t r g b w
  have hmn := fun w ts t => run_mn3 ts t r g b w
  have e : toneC r g b = if mx3 r g b = mn3 r g b then (0, 0, mx3 r g b) else (hueC r g b (mx3 r g b) (mx3 r g b - mn3 r g b), rdv ((mx3 r g b - mn3 r g b) * 65535) (mx3 r g b), mx3 r g b) := rfl
  have E := Lib.hid e
  clear e
  generalize toneC r g b = T at *
  generalize mx3 r g b = M at *
  generalize mn3 r g b = m at *
  by_cases h : M = m
  · have he : Hid (T = (0, 0, M)) := by show _ = _; rw [E.out, if_pos h]
    have t1 : (M == m) = true := by simpa using h
    clear E h m4 x4
    go_enter Try.func19, Try.ntmps19
    go_wp2
    go_quiet (fail)
    go_wp2
    refine bodyPost_ret (v := .agg #[.int .i64 T.1, .int .i64 T.2.1, .int .i64 T.2.2]) ?_ rfl ⟨rfl, ?_⟩
    · rw [he.out]; simp [results, Try.results19, go_sem]
    · exact set3b (by simp) ((((Bl.refl w).alloc _).alloc _).drewN _) _ _ _
  · have hd : 0 < M - m := by omega
    have HS := Lib.hid (fun w => signed_ref ((M - m) * 65535) M w (by omega) (by omega) (by omega) (by omega))
    have s1 := rdv_small (x := g - b) hd (by omega) (by omega)
    have s2 := rdv_small (x := b - r) hd (by omega) (by omega)
    have s3 := rdv_small (x := r - g) hd (by omega) (by omega)
    have HA := Lib.hid (fun w => signed_ref ((g - b) * 65535) (M - m) w (by omega) (by omega) hd (by omega))
    have HB := Lib.hid (fun w => signed_ref ((b - r) * 65535) (M - m) w (by omega) (by omega) hd (by omega))
    have HC := Lib.hid (fun w => signed_ref ((r - g) * 65535) (M - m) w (by omega) (by omega) hd (by omega))
    have t1 : (M == m) = false := by simpa using h
    have he := E.out
    rw [if_neg h, hueC_ref r g b M (M - m) hd] at he
    have b1 : 0 ≤ M := by omega
    have b2 : M ≤ 65535 := by omega
    have b3 : 0 ≤ m := by omega
    have b4 : m ≤ 65535 := by omega
    have b5 : 0 ≤ M - m := by omega
    have b6 : M - m ≤ 65535 := by omega
    generalize rdv ((M - m) * 65535) M = S at *
    generalize rdv ((g - b) * 65535) (M - m) = A at *
    generalize rdv ((b - r) * 65535) (M - m) = B at *
    generalize rdv ((r - g) * 65535) (M - m) = C at *
    obtain ⟨s1, s1'⟩ := s1
    obtain ⟨s2, s2'⟩ := s2
    obtain ⟨s3, s3'⟩ := s3
    clear E h m4 x4 m1 m2 m3 x1 x2 x3 hd
    by_cases e1 : M = r
    · rw [if_pos e1] at he
      have t2 : (r == M) = true := by simpa using e1.symm
      have HM := Lib.hid (fun w => modulo_ref (A) w (by omega) (by omega))
      have he2 := Lib.hid he
      clear he HB HC e1
      generalize (A) % 393210 = H at *
      go_enter Try.func19, Try.ntmps19
      go_wp2
      go_quiet (fail)
      go_wp2_with fail
      refine (HA.out _).mono ?_
      rintro e w1 ⟨rfl, g1⟩
      have h1 : Bl ((w.alloc (.cells #[.int .i64 r, .int .i64 g, .int .i64 b] 23)).alloc (.cells #[.int .i64 0, .int .i64 0, .int .i64 0] 25)) w1 := ((Bl.refl _).drewN _).trans g1
      go_wp2_with fail
      refine (HM.out _).mono ?_
      rintro e w' ⟨rfl, rfl⟩
      go_wp2_with fail
      refine (HS.out _).mono ?_
      rintro e w2 ⟨rfl, g2⟩
      obtain ⟨⟨k0, k1, k2⟩, f0, f1, f2⟩ := own3b (n := w.heap.size + 1) (by simp) (h1.trans g2)
      go_wp2_with fail
      refine bodyPost_ret (v := .agg #[.int .i64 T.1, .int .i64 T.2.1, .int .i64 T.2.2]) ?_ rfl ⟨rfl, ?_⟩
      · rw [he2.out]; simp [results, Try.results19, go_sem, k0, k1, k2]
      · exact set3b (by simp) ((((Bl.refl w).alloc _).alloc _).trans (h1.trans g2)) _ _ _
    · have t2 : (r == M) = false := by simpa using fun h => e1 h.symm
      rw [if_neg e1] at he
      by_cases e2 : M = g
      · rw [if_pos e2] at he
        have t3 : (g == M) = true := by simpa using e2.symm
        have HM := Lib.hid (fun w => modulo_ref (B + 131070) w (by omega) (by omega))
        have he2 := Lib.hid he
        clear he HA HC e1 e2
        generalize (B + 131070) % 393210 = H at *
        go_enter Try.func19, Try.ntmps19
        go_wp2
        go_quiet (fail)
        go_wp2_with fail
        refine (HB.out _).mono ?_
        rintro e w1 ⟨rfl, g1⟩
        have h1 : Bl ((w.alloc (.cells #[.int .i64 r, .int .i64 g, .int .i64 b] 23)).alloc (.cells #[.int .i64 0, .int .i64 0, .int .i64 0] 25)) w1 := ((Bl.refl _).drewN _).trans g1
        go_wp2_with fail
        refine (HM.out _).mono ?_
        rintro e w' ⟨rfl, rfl⟩
        go_wp2_with fail
        refine (HS.out _).mono ?_
        rintro e w2 ⟨rfl, g2⟩
        obtain ⟨⟨k0, k1, k2⟩, f0, f1, f2⟩ := own3b (n := w.heap.size + 1) (by simp) (h1.trans g2)
        go_wp2_with fail
        refine bodyPost_ret (v := .agg #[.int .i64 T.1, .int .i64 T.2.1, .int .i64 T.2.2]) ?_ rfl ⟨rfl, ?_⟩
        · rw [he2.out]; simp [results, Try.results19, go_sem, k0, k1, k2]
        · exact set3b (by simp) ((((Bl.refl w).alloc _).alloc _).trans (h1.trans g2)) _ _ _
      · rw [if_neg e2] at he
        have t3 : (g == M) = false := by simpa using fun h => e2 h.symm
        have HM := Lib.hid (fun w => modulo_ref (C + 262140) w (by omega) (by omega))
        have he2 := Lib.hid he
        clear he HA HB e1 e2
        generalize (C + 262140) % 393210 = H at *
        go_enter Try.func19, Try.ntmps19
        go_wp2
        go_quiet (fail)
        go_wp2_with fail
        refine (HC.out _).mono ?_
        rintro e w1 ⟨rfl, g1⟩
        have h1 : Bl ((w.alloc (.cells #[.int .i64 r, .int .i64 g, .int .i64 b] 23)).alloc (.cells #[.int .i64 0, .int .i64 0, .int .i64 0] 25)) w1 := ((Bl.refl _).drewN _).trans g1
        go_wp2_with fail
        refine (HM.out _).mono ?_
        rintro e w' ⟨rfl, rfl⟩
        go_wp2_with fail
        refine (HS.out _).mono ?_
        rintro e w2 ⟨rfl, g2⟩
        obtain ⟨⟨k0, k1, k2⟩, f0, f1, f2⟩ := own3b (n := w.heap.size + 1) (by simp) (h1.trans g2)
        go_wp2_with fail
        refine bodyPost_ret (v := .agg #[.int .i64 T.1, .int .i64 T.2.1, .int .i64 T.2.2]) ?_ rfl ⟨rfl, ?_⟩
        · rw [he2.out]; simp [results, Try.results19, go_sem, k0, k1, k2]
        · exact set3b (by simp) ((((Bl.refl w).alloc _).alloc _).trans (h1.trans g2)) _ _ _

set_option maxHeartbeats 1600000 in
theorem ToneOf_ref (r g b : Int) (w : World) :
    Calls Try.prog 8 #[.agg #[.int .i64 r, .int .i64 g, .int .i64 b]] w fun e w' => e = .returned (.tuple #[.agg #[.int .i64 (toneR r g b).1, .int .i64 (toneR r g b).2.1, .int .i64 (toneR r g b).2.2], .int .i64 (ckCol r g b)]) ∧ Bl w w' := by
  have hC := fun w => check_ref3 r g b w
  cases h : isCol r g b with
  | false =>
    have e : Hid (toneR r g b = (0, 0, 0) ∧ ckCol r g b = 1) := by show _ ∧ _; unfold toneR ckCol; rw [h]; exact ⟨rfl, rfl⟩
    rw [e.out.2] at hC ⊢
    rw [e.out.1]
    have HC := Lib.hid hC
    clear hC h
    go_enter Try.func8, Try.ntmps8
    go_wp2_with ((with_reducible refine (HC.out _).mono ?_); rintro e w' ⟨rfl, g1⟩; obtain ⟨⟨k0, k1, k2⟩, f0, f1, f2⟩ := own3b (n := w.heap.size + 1) (by simp) g1)
    refine bodyPost_ret (v := .tuple #[.agg #[.int .i64 0, .int .i64 0, .int .i64 0], .int .i64 1]) ?_ rfl ⟨rfl, ?_⟩
    · simp [results, Try.results8, go_sem, k0, k1, k2]
    · exact set3b (by simp) ((((Bl.refl w).alloc _).alloc _).trans g1) _ _ _
  | true =>
    obtain ⟨hr, hg, hb⟩ := isCol_iff.1 h
    have e : Hid (toneR r g b = toneC r g b ∧ ckCol r g b = 0) := by show _ ∧ _; unfold toneR ckCol; rw [h]; exact ⟨rfl, rfl⟩
    rw [e.out.2] at hC ⊢
    rw [e.out.1]
    have HC := Lib.hid hC
    have HT := Lib.hid (fun w => tone_ref r g b w hr hg hb)
    clear hC h hr hg hb
    generalize toneC r g b = T at *
    go_enter Try.func8, Try.ntmps8
    go_wp2_with (first | (go_at_call 12; ((with_reducible refine (HC.out _).mono ?_); rintro e w1 ⟨rfl, g1⟩; obtain ⟨c0, c1, c2⟩ := (own3b (n := w.heap.size) rfl (((Bl.refl (w.alloc (.cells #[.int .i64 r, .int .i64 g, .int .i64 b] 23))).alloc _).trans g1)).1)) | (go_at_call 19; ((with_reducible refine (HT.out _).mono ?_); rintro e w2 ⟨rfl, g2⟩; obtain ⟨⟨k0, k1, k2⟩, f0, f1, f2⟩ := own3b (n := w.heap.size + 1) (by simp) (g1.trans g2))))
    refine bodyPost_ret (v := .tuple #[.agg #[.int .i64 T.1, .int .i64 T.2.1, .int .i64 T.2.2], .int .i64 0]) ?_ rfl ⟨rfl, ?_⟩
    · simp [results, Try.results8, go_sem, k0, k1, k2]
    · exact set3b (by simp) (((((Bl.refl w).alloc _).alloc _).trans g1).trans g2) _ _ _

end Go.Proofs.Ytdmpdcggepfaiaa
