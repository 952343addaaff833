/- Texts of colours: Show and Read of the reference. -/
import Derived.Test.YtfamnaekelmkpaaGreatDoorHexR
import Derived.Test.YtfamnaekelmkpaaGreatDoorHexC
namespace Go.Proofs.YtfamnaekelmkpaaGreatDoor
open Go.RowKit Go.Lib Go.Sort

set_option maxHeartbeats 800000 in
theorem showR_col (r g b : Int) (w : World) (hd : DbAt w) :
    Calls Tryz.prog 16 #[.agg #[.int .i64 r, .int .i64 g, .int .i64 b]] w fun e w' => e = .returned (.tuple #[.string (bs (shT r g b)), .int .i64 (ckCol r g b)]) ∧ Bl w w' := by
  cases h : isCol r g b with
  | false =>
    have HK := Lib.hid (fun w => check_ref3 r g b w)
    have e1 : ckCol r g b = 1 := by unfold ckCol; rw [h]; rfl
    have e2 : shT r g b = [] := by unfold shT; rw [h]; rfl
    rw [e1] at HK ⊢
    rw [e2]
    clear e1 e2 h hd
    go_enter Tryz.func16, Tryz.ntmps16
    go_wp2_with (go_at_call 21; refine (HK.out _).mono ?_; rintro e w1 ⟨rfl, m1⟩)
    go_returns
    exact ⟨rfl, ((Bl.refl w).alloc _).trans m1⟩
  | true =>
    have e1 : ckCol r g b = 0 := by unfold ckCol; rw [h]; rfl
    have e2 : shT r g b = shC r.toNat g.toNat b.toNat := by unfold shT; rw [h]; rfl
    rw [e1, e2]
    obtain ⟨hr, hg, hb⟩ := isCol_iff.1 h
    have er : ((r.toNat : Nat) : Int) = r := by omega
    have eg : ((g.toNat : Nat) : Int) = g := by omega
    have eb : ((b.toNat : Nat) : Int) = b := by omega
    have h1 : r.toNat ≤ 65535 := by omega
    have h2 : g.toNat ≤ 65535 := by omega
    have h3 : b.toNat ≤ 65535 := by omega
    by_cases z : r.toNat % 257 = 0 ∧ g.toNat % 257 = 0 ∧ b.toNat % 257 = 0
    · have := showR_short r.toNat g.toNat b.toNat h1 h2 h3 z w hd
      rwa [er, eg, eb] at this
    · have := showR_long r.toNat g.toNat b.toNat h1 h2 h3 z w hd
      rwa [er, eg, eb] at this

/-- Parts of a text. -/
theorem part_list (s : ByteArray) (i j : Nat) : (s.extract i j).data.toList = (s.data.toList.drop i).take (j - i) := Lib.extract_data s i j
theorem head35 (l : List UInt8) : Lib.hasPrefix l [35] = decide (l.headD 0 = 35) := by
  cases l with
  | nil => rfl
  | cons c t =>
    by_cases h : c = 35
    · subst h; rfl
    · rw [decide_eq_false (show ¬ (c :: t).headD 0 = 35 from h)]
      show List.isPrefixOf [35] (c :: t) = false
      simp [List.isPrefixOf, Ne.symm h]
theorem cut35 (s : ByteArray) (w : World) :
    Calls Tryz.prog 64 #[.string s, .string ⟨#[35]⟩] w fun e w' => e = .returned (.tuple #[.string (if s.data.toList.headD 0 = 35 then bs (s.data.toList.drop 1) else s), .bool (decide (s.data.toList.headD 0 = 35))]) ∧ w' = w := by
  refine (Tryz.strings_CutPrefix s ⟨#[35]⟩ w).mono ?_
  rintro e w' ⟨rfl, rfl⟩
  refine ⟨?_, rfl⟩
  rw [show (⟨#[35]⟩ : ByteArray).data.toList = [35] from rfl, head35]
  unfold Lib.trimPrefix
  rw [head35]
  by_cases h : s.data.toList.headD 0 = 35
  · rw [decide_eq_true h, if_pos h, if_pos rfl]; rfl
  · rw [decide_eq_false h, if_neg h, if_neg (by decide)]
set_option maxRecDepth 100000 in
set_option maxHeartbeats 3200000 in
theorem readR_short (R s : ByteArray) (hs : s.data.toList.headD 0 = 35) (hR : R = bs (s.data.toList.drop 1)) (h7 : s.size = 7) (w : World) :
    Calls Tryz.prog 44 #[.string s] w fun e w' => e = .returned (.tuple #[colV (rdV s.data.toList).1 (rdV s.data.toList).2.1 (rdV s.data.toList).2.2, .int .i64 (rdX s.data.toList)]) ∧ Bl w w' := by
  have HC := Lib.hid (cut35 s)
  rw [if_pos hs, decide_eq_true hs, ← hR] at HC
  have hl : s.data.toList.length = 7 := by rw [← Lib.size_eq]; exact h7
  have hRl : R.data.toList = s.data.toList.drop 1 := by rw [hR, bs_list]
  have hR6 : R.size = 6 := by rw [hR, bs_size, List.length_drop]; omega
  have e3 : rdC s.data.toList = hex3 2 257 R.data.toList := by unfold rdC; rw [if_pos hs, if_pos hl, hRl]
  unfold hex3 at e3
  have p1 := part_list R 0 2
  have p2 := part_list R 2 4
  have p3 := part_list R 4 6
  rw [List.drop_zero] at p1
  rw [List.take_of_length_le (by rw [List.length_drop, ← Lib.size_eq, hR6]; decide)] at p3
  rw [← p1, ← p2, ← p3] at e3
  have H1 := Lib.hid (fun w => hex_ref (R.extract 0 2) (by simp; omega) w)
  have H2 := Lib.hid (fun w => hex_ref (R.extract 2 4) (by simp; omega) w)
  have H3 := Lib.hid (fun w => hex_ref (R.extract 4 6) (by simp; omega) w)
  have b1 := fun n h => hexVal_lt (R.extract 0 2).data.toList 0 n h
  have b2 := fun n h => hexVal_lt (R.extract 2 4).data.toList 0 n h
  have b3 := fun n h => hexVal_lt (R.extract 4 6).data.toList 0 n h
  have q1 : (R.extract 0 2).data.toList.length = 2 := by rw [← Lib.size_eq]; simp; omega
  have q2 : (R.extract 2 4).data.toList.length = 2 := by rw [← Lib.size_eq]; simp; omega
  have q3 : (R.extract 4 6).data.toList.length = 2 := by rw [← Lib.size_eq]; simp; omega
  rw [q1] at b1; rw [q2] at b2; rw [q3] at b3
  generalize hexVal 0 (R.extract 0 2).data.toList = x1 at *
  generalize hexVal 0 (R.extract 2 4).data.toList = x2 at *
  generalize hexVal 0 (R.extract 4 6).data.toList = x3 at *
  clear p1 p2 p3 q1 q2 q3 hRl hl hs hR
  have z1 : ((R.size : Int) != 6) = false := by rw [hR6]; rfl
  cases x1 with
  | none =>
    obtain ⟨r1, r2⟩ := rd_none e3
    rw [r1, r2]
    clear e3 r1 r2 b1 b2 b3
    generalize hxR x2 = y2 at *
    obtain ⟨v2, c2⟩ := y2
    generalize hxR x3 = y3 at *
    obtain ⟨v3, c3⟩ := y3
    go_enter Tryz.func44, Tryz.ntmps44
    go_wp2_with (first
      | (go_at_call 64; refine (HC.out _).mono ?_; rintro e w1 ⟨rfl, rfl⟩)
      | (go_at_call 65; (first | (with_reducible refine (H1.out _).mono ?_) | (with_reducible refine (H2.out _).mono ?_) | (with_reducible refine (H3.out _).mono ?_)); rintro e w2 ⟨rfl, rfl⟩))
    refine bodyPost_ret (v := .tuple #[colV 0 0 0, .int .i64 9]) ?_ rfl ⟨rfl, (Bl.refl w).alloc _⟩
    simp [results, Tryz.results44, go_sem, colV]
  | some n1 =>
  cases x2 with
  | none =>
    obtain ⟨r1, r2⟩ := rd_none e3
    rw [r1, r2]
    clear e3 r1 r2 b1 b2 b3
    generalize hxR x3 = y3 at *
    obtain ⟨v3, c3⟩ := y3
    go_enter Tryz.func44, Tryz.ntmps44
    go_wp2_with (first
      | (go_at_call 64; refine (HC.out _).mono ?_; rintro e w1 ⟨rfl, rfl⟩)
      | (go_at_call 65; (first | (with_reducible refine (H1.out _).mono ?_) | (with_reducible refine (H2.out _).mono ?_) | (with_reducible refine (H3.out _).mono ?_)); rintro e w2 ⟨rfl, rfl⟩))
    refine bodyPost_ret (v := .tuple #[colV 0 0 0, .int .i64 9]) ?_ rfl ⟨rfl, (Bl.refl w).alloc _⟩
    simp [results, Tryz.results44, go_sem, colV]
  | some n2 =>
  cases x3 with
  | none =>
    obtain ⟨r1, r2⟩ := rd_none e3
    rw [r1, r2]
    clear e3 r1 r2 b1 b2 b3
    go_enter Tryz.func44, Tryz.ntmps44
    go_wp2_with (first
      | (go_at_call 64; refine (HC.out _).mono ?_; rintro e w1 ⟨rfl, rfl⟩)
      | (go_at_call 65; (first | (with_reducible refine (H1.out _).mono ?_) | (with_reducible refine (H2.out _).mono ?_) | (with_reducible refine (H3.out _).mono ?_)); rintro e w2 ⟨rfl, rfl⟩))
    refine bodyPost_ret (v := .tuple #[colV 0 0 0, .int .i64 9]) ?_ rfl ⟨rfl, (Bl.refl w).alloc _⟩
    simp [results, Tryz.results44, go_sem, colV]
  | some n3 =>
    obtain ⟨r1, r2⟩ := rd_some e3
    rw [r1, r2]
    have m1 : (n1 : Int) < 256 := by have := b1 n1 rfl; simp at this; omega
    have m2 : (n2 : Int) < 256 := by have := b2 n2 rfl; simp at this; omega
    have m3 : (n3 : Int) < 256 := by have := b3 n3 rfl; simp at this; omega
    have l1 : 0 ≤ (n1 : Int) := by omega
    have l2 : 0 ≤ (n2 : Int) := by omega
    have l3 : 0 ≤ (n3 : Int) := by omega
    have u1 : ((257 * n1 : Nat) : Int) = 257 * (n1 : Int) := by omega
    have u2 : ((257 * n2 : Nat) : Int) = 257 * (n2 : Int) := by omega
    have u3 : ((257 * n3 : Nat) : Int) = 257 * (n3 : Int) := by omega
    rw [u1, u2, u3]
    simp only [hxR] at H1 H2 H3
    clear e3 r1 r2 b1 b2 b3 u1 u2 u3
    generalize (n1 : Int) = n1 at *
    generalize (n2 : Int) = n2 at *
    generalize (n3 : Int) = n3 at *
    go_enter Tryz.func44, Tryz.ntmps44
    go_wp2_with (first
      | (go_at_call 64; refine (HC.out _).mono ?_; rintro e w1 ⟨rfl, rfl⟩)
      | (go_at_call 65; (first | (with_reducible refine (H1.out _).mono ?_) | (with_reducible refine (H2.out _).mono ?_) | (with_reducible refine (H3.out _).mono ?_)); rintro e w2 ⟨rfl, rfl⟩))
    obtain ⟨e0, e1, e2⟩ := new3 (w := w) (.int .i64 (257 * n1)) (.int .i64 (257 * n2)) (.int .i64 (257 * n3)) 31 (Bl.refl _)
    refine bodyPost_ret (v := .tuple #[colV (257 * n1) (257 * n2) (257 * n3), .int .i64 0]) ?_ rfl ⟨rfl, (Bl.refl w).alloc _⟩
    simp [results, Tryz.results44, go_sem, colV, e0, e1, e2]
set_option maxRecDepth 100000 in
set_option maxHeartbeats 3200000 in
theorem readR_long (R s : ByteArray) (hs : s.data.toList.headD 0 = 35) (hR : R = bs (s.data.toList.drop 1)) (h13 : s.size = 13) (w : World) :
    Calls Tryz.prog 44 #[.string s] w fun e w' => e = .returned (.tuple #[colV (rdV s.data.toList).1 (rdV s.data.toList).2.1 (rdV s.data.toList).2.2, .int .i64 (rdX s.data.toList)]) ∧ Bl w w' := by
  have HC := Lib.hid (cut35 s)
  rw [if_pos hs, decide_eq_true hs, ← hR] at HC
  have hl : s.data.toList.length = 13 := by rw [← Lib.size_eq]; exact h13
  have hRl : R.data.toList = s.data.toList.drop 1 := by rw [hR, bs_list]
  have hR12 : R.size = 12 := by rw [hR, bs_size, List.length_drop]; omega
  have e3 : rdC s.data.toList = hex3 4 1 R.data.toList := by unfold rdC; rw [if_pos hs, if_neg (by omega), if_pos hl, hRl]
  unfold hex3 at e3
  have p1 := part_list R 0 4
  have p2 := part_list R 4 8
  have p3 := part_list R 8 12
  rw [List.drop_zero] at p1
  rw [List.take_of_length_le (by rw [List.length_drop, ← Lib.size_eq, hR12]; decide)] at p3
  rw [← p1, ← p2, ← p3] at e3
  have H1 := Lib.hid (fun w => hex_ref (R.extract 0 4) (by simp; omega) w)
  have H2 := Lib.hid (fun w => hex_ref (R.extract 4 8) (by simp; omega) w)
  have H3 := Lib.hid (fun w => hex_ref (R.extract 8 12) (by simp; omega) w)
  have b1 := fun n h => hexVal_lt (R.extract 0 4).data.toList 0 n h
  have b2 := fun n h => hexVal_lt (R.extract 4 8).data.toList 0 n h
  have b3 := fun n h => hexVal_lt (R.extract 8 12).data.toList 0 n h
  have q1 : (R.extract 0 4).data.toList.length = 4 := by rw [← Lib.size_eq]; simp; omega
  have q2 : (R.extract 4 8).data.toList.length = 4 := by rw [← Lib.size_eq]; simp; omega
  have q3 : (R.extract 8 12).data.toList.length = 4 := by rw [← Lib.size_eq]; simp; omega
  rw [q1] at b1; rw [q2] at b2; rw [q3] at b3
  generalize hexVal 0 (R.extract 0 4).data.toList = x1 at *
  generalize hexVal 0 (R.extract 4 8).data.toList = x2 at *
  generalize hexVal 0 (R.extract 8 12).data.toList = x3 at *
  clear p1 p2 p3 q1 q2 q3 hRl hl hs hR
  have z1 : ((R.size : Int) != 6) = true := by rw [hR12]; rfl
  have z2 : ((R.size : Int) != 12) = false := by rw [hR12]; rfl
  cases x1 with
  | none =>
    obtain ⟨r1, r2⟩ := rd_none e3
    rw [r1, r2]
    clear e3 r1 r2 b1 b2 b3
    generalize hxR x2 = y2 at *
    obtain ⟨v2, c2⟩ := y2
    generalize hxR x3 = y3 at *
    obtain ⟨v3, c3⟩ := y3
    go_enter Tryz.func44, Tryz.ntmps44
    go_wp2_with (first
      | (go_at_call 64; refine (HC.out _).mono ?_; rintro e w1 ⟨rfl, rfl⟩)
      | (go_at_call 65; (first | (with_reducible refine (H1.out _).mono ?_) | (with_reducible refine (H2.out _).mono ?_) | (with_reducible refine (H3.out _).mono ?_)); rintro e w2 ⟨rfl, rfl⟩))
    refine bodyPost_ret (v := .tuple #[colV 0 0 0, .int .i64 9]) ?_ rfl ⟨rfl, (Bl.refl w).alloc _⟩
    simp [results, Tryz.results44, go_sem, colV]
  | some n1 =>
  cases x2 with
  | none =>
    obtain ⟨r1, r2⟩ := rd_none e3
    rw [r1, r2]
    clear e3 r1 r2 b1 b2 b3
    generalize hxR x3 = y3 at *
    obtain ⟨v3, c3⟩ := y3
    go_enter Tryz.func44, Tryz.ntmps44
    go_wp2_with (first
      | (go_at_call 64; refine (HC.out _).mono ?_; rintro e w1 ⟨rfl, rfl⟩)
      | (go_at_call 65; (first | (with_reducible refine (H1.out _).mono ?_) | (with_reducible refine (H2.out _).mono ?_) | (with_reducible refine (H3.out _).mono ?_)); rintro e w2 ⟨rfl, rfl⟩))
    refine bodyPost_ret (v := .tuple #[colV 0 0 0, .int .i64 9]) ?_ rfl ⟨rfl, (Bl.refl w).alloc _⟩
    simp [results, Tryz.results44, go_sem, colV]
  | some n2 =>
  cases x3 with
  | none =>
    obtain ⟨r1, r2⟩ := rd_none e3
    rw [r1, r2]
    clear e3 r1 r2 b1 b2 b3
    go_enter Tryz.func44, Tryz.ntmps44
    go_wp2_with (first
      | (go_at_call 64; refine (HC.out _).mono ?_; rintro e w1 ⟨rfl, rfl⟩)
      | (go_at_call 65; (first | (with_reducible refine (H1.out _).mono ?_) | (with_reducible refine (H2.out _).mono ?_) | (with_reducible refine (H3.out _).mono ?_)); rintro e w2 ⟨rfl, rfl⟩))
    refine bodyPost_ret (v := .tuple #[colV 0 0 0, .int .i64 9]) ?_ rfl ⟨rfl, (Bl.refl w).alloc _⟩
    simp [results, Tryz.results44, go_sem, colV]
  | some n3 =>
    obtain ⟨r1, r2⟩ := rd_some e3
    rw [r1, r2]
    have m1 : (n1 : Int) < 65536 := by have := b1 n1 rfl; simp at this; omega
    have m2 : (n2 : Int) < 65536 := by have := b2 n2 rfl; simp at this; omega
    have m3 : (n3 : Int) < 65536 := by have := b3 n3 rfl; simp at this; omega
    have l1 : 0 ≤ (n1 : Int) := by omega
    have l2 : 0 ≤ (n2 : Int) := by omega
    have l3 : 0 ≤ (n3 : Int) := by omega
    have u1 : ((1 * n1 : Nat) : Int) = (n1 : Int) := by omega
    have u2 : ((1 * n2 : Nat) : Int) = (n2 : Int) := by omega
    have u3 : ((1 * n3 : Nat) : Int) = (n3 : Int) := by omega
    rw [u1, u2, u3]
    simp only [hxR] at H1 H2 H3
    clear e3 r1 r2 b1 b2 b3 u1 u2 u3
    generalize (n1 : Int) = n1 at *
    generalize (n2 : Int) = n2 at *
    generalize (n3 : Int) = n3 at *
    go_enter Tryz.func44, Tryz.ntmps44
    go_wp2_with (first
      | (go_at_call 64; refine (HC.out _).mono ?_; rintro e w1 ⟨rfl, rfl⟩)
      | (go_at_call 65; (first | (with_reducible refine (H1.out _).mono ?_) | (with_reducible refine (H2.out _).mono ?_) | (with_reducible refine (H3.out _).mono ?_)); rintro e w2 ⟨rfl, rfl⟩))
    obtain ⟨e0, e1, e2⟩ := new3 (w := w) (.int .i64 (n1)) (.int .i64 (n2)) (.int .i64 (n3)) 31 (Bl.refl _)
    refine bodyPost_ret (v := .tuple #[colV (n1) (n2) (n3), .int .i64 0]) ?_ rfl ⟨rfl, (Bl.refl w).alloc _⟩
    simp [results, Tryz.results44, go_sem, colV, e0, e1, e2]

set_option maxRecDepth 100000 in
set_option maxHeartbeats 1600000 in
theorem readR_no (s : ByteArray) (h : ¬ (s.data.toList.headD 0 = 35 ∧ (s.size = 7 ∨ s.size = 13))) (w : World) :
    Calls Tryz.prog 44 #[.string s] w fun e w' => e = .returned (.tuple #[colV 0 0 0, .int .i64 9]) ∧ Bl w w' := by
  have HC := Lib.hid (cut35 s)
  by_cases hs : s.data.toList.headD 0 = 35
  · have h' : ¬ (s.size = 7 ∨ s.size = 13) := fun hh => h ⟨hs, hh⟩
    rw [if_pos hs, decide_eq_true hs] at HC
    have hsz : (bs (s.data.toList.drop 1)).size + 1 = s.size := by
      rw [bs_size, List.length_drop, Lib.size_eq]
      cases hl : s.data.toList with
      | nil => rw [hl] at hs; cases hs
      | cons _ _ => simp
    have z1 : (((bs (s.data.toList.drop 1)).size : Int) != 6) = true := by simp only [bne_iff_ne]; omega
    have z2 : (((bs (s.data.toList.drop 1)).size : Int) != 12) = true := by simp only [bne_iff_ne]; omega
    clear hsz hs h h'
    generalize bs (s.data.toList.drop 1) = R at *
    go_enter Tryz.func44, Tryz.ntmps44
    go_wp2_with (go_at_call 64; refine (HC.out _).mono ?_; rintro e w1 ⟨rfl, rfl⟩)
    refine bodyPost_ret (v := .tuple #[colV 0 0 0, .int .i64 9]) ?_ rfl ⟨rfl, (Bl.refl w).alloc _⟩
    simp [results, Tryz.results44, go_sem, colV]
  · rw [if_neg hs, decide_eq_false hs] at HC
    clear hs h
    go_enter Tryz.func44, Tryz.ntmps44
    go_wp2_with (go_at_call 64; refine (HC.out _).mono ?_; rintro e w1 ⟨rfl, rfl⟩)
    refine bodyPost_ret (v := .tuple #[colV 0 0 0, .int .i64 9]) ?_ rfl ⟨rfl, (Bl.refl w).alloc _⟩
    simp [results, Tryz.results44, go_sem, colV]
theorem readR_col (s : ByteArray) (w : World) :
    Calls Tryz.prog 44 #[.string s] w fun e w' => e = .returned (.tuple #[colV (rdV s.data.toList).1 (rdV s.data.toList).2.1 (rdV s.data.toList).2.2, .int .i64 (rdX s.data.toList)]) ∧ Bl w w' := by
  by_cases h : s.data.toList.headD 0 = 35 ∧ (s.size = 7 ∨ s.size = 13)
  · obtain ⟨hs, h7 | h13⟩ := h
    · exact readR_short _ s hs rfl h7 w
    · exact readR_long _ s hs rfl h13 w
  · have e3 : rdC s.data.toList = none := by
      have hz := Lib.size_eq s
      unfold rdC
      by_cases hs : s.data.toList.headD 0 = 35
      · have h' : ¬ (s.size = 7 ∨ s.size = 13) := fun hh => h ⟨hs, hh⟩
        rw [if_pos hs, if_neg (by omega), if_neg (by omega)]
      · rw [if_neg hs]
    obtain ⟨r1, r2⟩ := rd_none e3
    rw [r1, r2]
    exact readR_no s h w
end Go.Proofs.YtfamnaekelmkpaaGreatDoor
