/- readGel of the reference. -/
import Derived.Test.YtfamnaekelmkpaaGreatDoorGelR
import Derived.Test.YtfamnaekelmkpaaGreatDoorBkM
import Derived.Test.YtfamnaekelmkpaaGreatDoorDecP
import Derived.Test.YtfamnaekelmkpaaGreatDoorRefN
import Derived.Test.YtfamnaekelmkpaaGreatDoorHexT
namespace Go.Proofs.YtfamnaekelmkpaaGreatDoor
open Go.RowKit Go.Lib Go.Sort

theorem split_cut (c : UInt8) : ∀ l : List UInt8, split1 c l = (cut1 c l).1 :: (if (cut1 c l).2.2 = true then split1 c (cut1 c l).2.1 else [])
  | [] => rfl
  | b :: r => by
    rw [show cut1 c (b :: r) = if b = c then ([], r, true) else (b :: (cut1 c r).1, (cut1 c r).2.1, (cut1 c r).2.2) from rfl, show split1 c (b :: r) = if b = c then [] :: split1 c r else (match split1 c r with | [] => [[b]] | h :: t => (b :: h) :: t) from rfl]
    by_cases h : b = c
    · rw [if_pos h, if_pos h]; rfl
    · rw [if_neg h, if_neg h, split_cut c r]
theorem cut1_len (c : UInt8) : ∀ l : List UInt8, (cut1 c l).1.length ≤ l.length ∧ (cut1 c l).2.1.length ≤ l.length
  | [] => ⟨Nat.le_refl _, Nat.le_refl _⟩
  | b :: r => by
    have ih := cut1_len c r
    rw [show cut1 c (b :: r) = if b = c then ([], r, true) else (b :: (cut1 c r).1, (cut1 c r).2.1, (cut1 c r).2.2) from rfl]
    split
    · exact ⟨Nat.zero_le _, Nat.le_succ _⟩
    · exact ⟨Nat.succ_le_succ ih.1, Nat.le_succ_of_le ih.2⟩
set_option maxRecDepth 100000 in
set_option maxHeartbeats 6400000 in
theorem gelR_walk (s a r b n : ByteArray) (ok is right : Bool) (V c1 c2 c3 F : Int) (w : World)
    (h1 : ∀ w, Calls Tryz.prog 35 #[.string s, .string ⟨#[32]⟩] w fun e w' => e = .returned (.tuple #[.string a, .string r, .bool ok]) ∧ Gr w w')
    (h2 : ∀ w, Calls Tryz.prog 35 #[.string r, .string ⟨#[32]⟩] w fun e w' => e = .returned (.tuple #[.string b, .string n, .bool is]) ∧ Gr w w')
    (h3 : ∀ w, Calls Tryz.prog 43 #[.string a, .int .i64 9] w fun e w' => e = .returned (.tuple #[.int .i64 V, .bool right]) ∧ Bl w w')
    (h4 : ∀ w, Calls Tryz.prog 44 #[.string b] w fun e w' => e = .returned (.tuple #[colV c1 c2 c3, .int .i64 F]) ∧ Bl w w') :
    Calls Tryz.prog 26 #[.string s] w fun x w' => x = .returned (.tuple #[gelV ⟨V, n, c1, c2, c3⟩, .bool (ok && (is && (right && (decide (F = 0) && !decide (n = ⟨#[]⟩)))))]) ∧ Bl w w' := by
  obtain ⟨W0, hW0⟩ : ∃ W0, W0 = w.alloc (.cells #[.int .i64 0, .string ⟨#[]⟩, .int .i64 0, .int .i64 0, .int .i64 0] 33) := ⟨_, rfl⟩
  have b0 : Bl w W0 := by rw [hW0]; exact (Bl.refl w).alloc _
  have z0 : w.heap.size < W0.heap.size := by rw [hW0]; simp
  have q0 : W0.cell? ⟨w.heap.size, 0, none⟩ = some (.int .i64 0) := by rw [hW0]; simp
  have q1 : W0.cell? ⟨w.heap.size, 1, none⟩ = some (.string ⟨#[]⟩) := by rw [hW0]; simp
  have q2 : W0.cell? ⟨w.heap.size, 2, none⟩ = some (.int .i64 0) := by rw [hW0]; simp
  have q3 : W0.cell? ⟨w.heap.size, 3, none⟩ = some (.int .i64 0) := by rw [hW0]; simp
  have q4 : W0.cell? ⟨w.heap.size, 4, none⟩ = some (.int .i64 0) := by rw [hW0]; simp
  have fz : ∀ i, W0.frozen? ⟨w.heap.size, i, none⟩ = false := fun i => by rw [hW0]; simp
  have hW1 := hW0
  have H1 := Lib.hid h1
  have H2 := Lib.hid h2
  have H3 := Lib.hid h3
  have H4 := Lib.hid h4
  simp only [colV] at H4
  clear h1 h2 h3 h4
  have hcase : ok = false ∨ (ok = true ∧ is = false) ∨ (ok = true ∧ is = true ∧ right = false) ∨ (ok = true ∧ is = true ∧ right = true ∧ F ≠ 0) ∨ (ok = true ∧ is = true ∧ right = true ∧ F = 0 ∧ n = ⟨#[]⟩) ∨ (ok = true ∧ is = true ∧ right = true ∧ F = 0 ∧ n ≠ ⟨#[]⟩) := by
    cases ok <;> cases is <;> cases right <;> simp
    by_cases hF : F = 0
    · by_cases hn : n = ⟨#[]⟩
      · exact .inr (.inl ⟨hF, hn⟩)
      · exact .inr (.inr ⟨hF, hn⟩)
    · exact .inl hF
  have hD : ∃ D, D = (ok && (is && (right && (decide (F = 0) && !decide (n = ⟨#[]⟩))))) := ⟨_, rfl⟩
  obtain ⟨D, hD⟩ := hD
  rw [← hD]
  have fin : ∀ (w4 : World), Bl W0 w4 → ∃ W5, W5 = w4.alloc (.cells #[.int .i64 c1, .int .i64 c2, .int .i64 c3] 31) ∧ Bl w W5 ∧ W5.cell? ⟨w.heap.size, 0, none⟩ = some (.int .i64 0) ∧ W5.cell? ⟨w.heap.size, 1, none⟩ = some (.string ⟨#[]⟩) ∧ W5.cell? ⟨w.heap.size, 2, none⟩ = some (.int .i64 0) ∧ W5.cell? ⟨w.heap.size, 3, none⟩ = some (.int .i64 0) ∧ W5.cell? ⟨w.heap.size, 4, none⟩ = some (.int .i64 0) ∧ (∀ i, W5.frozen? ⟨w.heap.size, i, none⟩ = false) ∧ W5.cell? ⟨w4.heap.size, 0, none⟩ = some (.int .i64 c1) ∧ W5.cell? ⟨w4.heap.size, 1, none⟩ = some (.int .i64 c2) ∧ W5.cell? ⟨w4.heap.size, 2, none⟩ = some (.int .i64 c3) := fun w4 h => by
    have h5 : Bl W0 (w4.alloc (.cells #[.int .i64 c1, .int .i64 c2, .int .i64 c3] 31)) := h.alloc _
    exact ⟨_, rfl, b0.trans h5, Bl.cell h5 q0, Bl.cell h5 q1, Bl.cell h5 q2, Bl.cell h5 q3, Bl.cell h5 q4, fun i => (h5.frozen z0).trans (fz i), by simp, by simp, by simp⟩
  have FIN := Lib.hid fin
  clear fin q0 q1 q2 q3 q4 fz
  rcases hcase with rfl | ⟨rfl, rfl⟩ | ⟨rfl, rfl, rfl⟩ | ⟨rfl, rfl, rfl, hF⟩ | ⟨rfl, rfl, rfl, rfl, rfl⟩ | ⟨rfl, rfl, rfl, rfl, hn⟩
  all_goals
    (try have t1 : (F == 0) = false := by simpa using hF)
    (try replace hD : D = false := by rw [hD]; simp [hF])
    (try replace hD : D = true := by rw [hD]; simp [hn])
    (try simp at hD)
    subst hD
    (try have T1 := Lib.hid t1)
    (try have T2 := Lib.hid (str_ne (s := n) (fun h => hn (str_nil h))))
    (try clear t1)
    (try clear hF)
    (try clear hn)
    clear hW0
    have hW0 : w.alloc (.cells #[.int .i64 0, .string ⟨#[]⟩, .int .i64 0, .int .i64 0, .int .i64 0] 33) = W0 := hW1.symm
    clear hW1
    go_enter Tryz.func26, Tryz.ntmps26
    go_wp2_with fail
    (try rw [hW0])
    clear hW0
    refine (H1.out _).mono ?_
    rintro e w1 ⟨rfl, g1⟩
    go_wp2_with fail
    refine (H2.out _).mono ?_
    rintro e w2 ⟨rfl, g2⟩
    go_wp2_with fail
    refine (H3.out _).mono ?_
    rintro e w3 ⟨rfl, g3⟩
    go_wp2_with fail
    refine (H4.out _).mono ?_
    rintro e w4 ⟨rfl, g4⟩
    obtain ⟨W5, hW5, bW5, p0, p1, p2, p3, p4, pz, x0, x1, x2⟩ := FIN.out w4 (((g1.bl.trans g2.bl).trans g3).trans g4)
    replace hW5 := hW5.symm
    have pz0 := pz 0
    have pz1 := pz 1
    have pz2 := pz 2
    have pz3 := pz 3
    have pz4 := pz 4
    clear pz g1 g2 g3 g4
    (try have t1 := T1.out)
    (try obtain ⟨hE, hE2⟩ := T2.out)
    go_wp2_with fail
    (try rw [hW5])
    clear hW5
    (first
      | (obtain ⟨E0, E1, E2, E3, E4⟩ := st5 (e := ⟨V, n, c1, c2, c3⟩) p0 p1 p2 p3 p4; have hfin := set5_bl (e := ⟨V, n, c1, c2, c3⟩) bW5 (Nat.le_refl _))
      | (obtain ⟨E0, E1, E2, E3, E4⟩ := st5 (e := ⟨V, ⟨#[]⟩, c1, c2, c3⟩) p0 p1 p2 p3 p4; have hfin := set5_bl (e := ⟨V, ⟨#[]⟩, c1, c2, c3⟩) bW5 (Nat.le_refl _)))
    simp only [set5] at E0 E1 E2 E3 E4 hfin
    refine bodyPost_ret ?_ rfl ⟨rfl, hfin⟩
    simp [results, Tryz.results26, go_sem, gelV, E0, E1, E2, E3, E4]
/-- What the reference's readGel makes of a line. -/
theorem readGelR_any (line : List UInt8) (w : World) (hs : line.length ≤ 1000000) :
    Calls Tryz.prog 26 #[.string (bs line)] w fun x w' => ∃ e, (lnOk line = true → e = lnGel line) ∧ x = .returned (.tuple #[gelV e, .bool (lnOk line)]) ∧ Bl w w' := by
  have l1 := split_cut 32 line
  obtain ⟨a, r, ok, hc1⟩ : ∃ a r ok, cut1 32 line = (a, r, ok) := ⟨_, _, _, rfl⟩
  obtain ⟨b, n, is, hc2⟩ : ∃ b n is, cut1 32 r = (b, n, is) := ⟨_, _, _, rfl⟩
  have l2 := split_cut 32 r
  rw [hc1] at l1
  rw [hc2] at l2
  simp only at l1 l2
  have hr : a.length ≤ line.length ∧ r.length ≤ line.length := by
    have := cut1_len 32 line
    rw [hc1] at this
    exact this
  have hn : b.length ≤ r.length ∧ n.length ≤ r.length := by
    have := cut1_len 32 r
    rw [hc2] at this
    exact this
  have h1 : ∀ w, Calls Tryz.prog 35 #[.string (bs line), .string ⟨#[32]⟩] w fun e w' => e = .returned (.tuple #[.string (bs a), .string (bs r), .bool ok]) ∧ Gr w w' := fun w => by
    have := cut_any (bs line) 32 w (by rw [bs_size]; omega)
    unfold cutR at this
    rwa [bs_list, hc1] at this
  have h2 : ∀ w, Calls Tryz.prog 35 #[.string (bs r), .string ⟨#[32]⟩] w fun e w' => e = .returned (.tuple #[.string (bs b), .string (bs n), .bool is]) ∧ Gr w w' := fun w => by
    have := cut_any (bs r) 32 w (by rw [bs_size]; omega)
    unfold cutR at this
    rwa [bs_list, hc2] at this
  have h3 : ∀ w, Calls Tryz.prog 43 #[.string (bs a), .int .i64 9] w fun e w' => e = .returned (.tuple #[.int .i64 (if numOk 9 a = true then val a else 0), .bool (numOk 9 a)]) ∧ Bl w w' := fun w => by
    have := numberR (bs a) 9 w (by rw [bs_size]; omega) (Nat.le_refl _)
    unfold numM at this
    rwa [bs_list] at this
  have h4 : ∀ w, Calls Tryz.prog 44 #[.string (bs b)] w fun e w' => e = .returned (.tuple #[colV (rdV b).1 (rdV b).2.1 (rdV b).2.2, .int .i64 (rdX b)]) ∧ Bl w w' := fun w => by
    have := readR_col (bs b) w
    rwa [bs_list] at this
  refine (gelR_walk (bs line) (bs a) (bs r) (bs b) (bs n) ok is (numOk 9 a) _ _ _ _ _ w h1 h2 h3 h4).mono ?_
  rintro x w' ⟨rfl, hb⟩
  have hE : decide (bs n = (⟨#[]⟩ : ByteArray)) = n.isEmpty := by
    cases n with
    | nil => rfl
    | cons c t => rw [decide_eq_false (fun h => by have := congrArg ByteArray.size h; rw [bs_size] at this; exact Nat.succ_ne_zero _ this)]; rfl
  have hk : lnOk line = (ok && (is && (numOk 9 a && (decide (rdX b = 0) && !decide (bs n = (⟨#[]⟩ : ByteArray)))))) := by
    unfold lnOk
    rw [l1, hE]
    cases ok with
    | false => rfl
    | true =>
      rw [if_pos rfl, l2]
      cases is with
      | false => simp [jn, Lib.join]
      | true => rw [if_pos rfl]; simp only [jn_split, Bool.true_and]
  refine ⟨_, fun ht => ?_, by rw [hk], hb⟩
  rw [hk] at ht
  cases ok with
  | false => cases ht
  | true =>
    cases is with
    | false => cases ht
    | true =>
      unfold lnGel
      rw [l1, if_pos rfl, l2, if_pos rfl]
      simp only [jn_split]
      cases hna : numOk 9 a with
      | true => rfl
      | false => rw [hna] at ht; cases ht
end Go.Proofs.YtfamnaekelmkpaaGreatDoor
