/- The reference's texts of levels: Show and Read. -/
import Derived.Test.YtfeeolfekfkdiaaDoorRefM
import Derived.Test.YtfeeolfekfkdiaaDoorRefI
import Derived.Test.YtfeeolfekfkdiaaDoorLvT
namespace Go.Proofs.YtfeeolfekfkdiaaDoor
open Go.RowKit Go.Lib Go.Sort

theorem pct_rnd (h : Int) : (h * 65535 + 5000) / 10000 = rnd h 10000 65535 := by
  unfold rnd
  rw [show 2 * 65535 * h + 10000 = 2 * (h * 65535 + 5000) by omega, show (2 * 10000 : Int) = 2 * 10000 from rfl, Int.mul_ediv_mul_of_pos _ _ (by decide)]
set_option maxHeartbeats 400000 in
theorem percentR (h : Int) (w : World) (h0 : 0 ≤ h) (h1 : h ≤ 1000000) :
    Calls Tryd.prog 43 #[.int .i64 h] w fun e w' => e = .returned (.int .i64 (rnd h 10000 65535)) ∧ w = w' := by
  have HE := Lib.hid (pct_rnd h)
  go_enter Tryd.func43, Tryd.ntmps43
  go_wp2
  go_returns
  refine ⟨?_, rfl⟩
  rw [← HE.out]; rfl
theorem pct_back {k n : Int} (h : rnd (100 * k) 10000 65535 = n) : rnd n 65535 100 = k := by
  unfold rnd at h ⊢
  omega
theorem lv_pct {n k : Int} (n0 : n ≠ 0) (n1 : n ≠ 65535) (h : rnd (100 * k) 10000 65535 = n) : lvShow n = decDigits k.toNat ++ [37] := by
  have hb := pct_back h
  unfold lvShow
  rw [if_neg n0, if_neg n1, hb, if_pos (by rw [Int.mul_comm]; exact h)]
theorem lv_num {n : Int} (n0 : n ≠ 0) (n1 : n ≠ 65535) (a0 : 0 ≤ n) (a1 : n ≤ 65535) (h : ∀ k : Nat, k < 101 → rnd (100 * (k : Int)) 10000 65535 ≠ n) : lvShow n = 35 :: decDigits n.toNat := by
  have p0 : 0 ≤ rnd n 65535 100 := rnd_nonneg (by decide) a0 (by decide)
  have p1 : rnd n 65535 100 ≤ 100 := rnd_le (by decide) a1 (by decide)
  have := h (rnd n 65535 100).toNat (by omega)
  rw [Int.toNat_of_nonneg p0] at this
  unfold lvShow
  rw [if_neg n0, if_neg n1, if_neg (by rw [Int.mul_comm]; exact this)]
set_option maxHeartbeats 1600000 in
theorem showR (n : Int) (w : World) (ht : TabIs Tryd.prog w "internal/strconv.uint64pow10" .u64 pow10Tab) :
    Calls Tryd.prog 15 #[.int .i64 n] w fun e w' => e = lsR n ∧ Gr w w' := by
  have HI := fun w => isLevelI n w
  have HT := Lib.hid ht
  clear ht
  cases hm : isLev n with
  | false =>
    rw [hm] at HI
    have HR := Lib.hid (show lsR n = .returned (.tuple #[.string (bs []), .int .i64 1]) by unfold lsR; rw [hm]; rfl)
    clear hm
    go_enter Tryd.func15, Tryd.ntmps15
    go_wp2_with (refine (HI _).mono ?_; rintro e w2 ⟨rfl, rfl⟩)
    go_returns
    exact ⟨HR.out.symm, Gr.refl _⟩
  | true =>
    rw [hm] at HI
    obtain ⟨h0, h1⟩ := isLev_iff.1 hm
    have hR : lsR n = .returned (.tuple #[.string (bs (lvShow n)), .int .i64 0]) := by unfold lsR; rw [hm]; rfl
    by_cases n0 : n = 0
    · have HR := Lib.hid (show lsR n = .returned (.tuple #[.string (bs [111, 117, 116]), .int .i64 0]) by rw [hR]; unfold lvShow; rw [if_pos n0])
      have n0' : (n == 0) = true := by rw [n0]; rfl
      clear hm hR n0
      go_enter Tryd.func15, Tryd.ntmps15
      go_wp2_with (refine (HI _).mono ?_; rintro e w2 ⟨rfl, rfl⟩)
      go_returns
      exact ⟨HR.out.symm, Gr.refl _⟩
    have n0' : (n == 0) = false := beq_eq_false_iff_ne.2 n0
    by_cases n1 : n = 65535
    · have HR := Lib.hid (show lsR n = .returned (.tuple #[.string (bs [102, 117, 108, 108]), .int .i64 0]) by rw [hR]; unfold lvShow; rw [if_neg n0, if_pos n1])
      have n1' : (n == 65535) = true := by rw [n1]; rfl
      clear hm hR n0 n1
      go_enter Tryd.func15, Tryd.ntmps15
      go_wp2_with (refine (HI _).mono ?_; rintro e w2 ⟨rfl, rfl⟩)
      go_returns
      exact ⟨HR.out.symm, Gr.refl _⟩
    have n1' : (n == 65535) = false := beq_eq_false_iff_ne.2 n1
    have HP := Lib.hid (fun (k : Nat) (hk : k < 101) w => percentR (100 * (k : Int)) w (by omega) (by omega))
    have HY := Lib.hid (fun (k : Nat) (hk : k < 101) (h : rnd (100 * (k : Int)) 10000 65535 = n) => show lsR n = .returned (.tuple #[.string (bs (decDigits k) ++ bs [37]), .int .i64 0]) by
      rw [hR, lv_pct n0 n1 h, bs_app]; rfl)
    have HZ := Lib.hid (fun (h : ∀ k : Nat, k < 101 → rnd (100 * (k : Int)) 10000 65535 ≠ n) => show lsR n = .returned (.tuple #[.string (bs [35] ++ bs (decDigits n.toNat)), .int .i64 0]) by
      rw [hR, lv_num n0 n1 h0 h1 h, bs_app]; rfl)
    have HJ := Lib.hid (fun (k : Nat) (hk : k < 101) => show Calls Tryd.prog 42 #[.int .i64 (k : Int)] w fun e w' => e = .returned (.string (bs (decDigits k))) ∧ Gr w w' from
      itoa_any (k : Int) w (by omega) (by omega) HT.out)
    have HL := Lib.hid (fun (k : Nat) (hk : k < 101) => show (bs (decDigits k)).size ≤ 10 by rw [bs_size]; exact dd_len _ _ (by decide) (by omega))
    have HN := Lib.hid (itoa_any n w h0 (by omega) HT.out)
    have hl : (bs (decDigits n.toNat)).size ≤ 10 := by rw [bs_size]; exact dd_len _ _ (by decide) (by omega)
    clear hm hR n0 n1
    go_enter Tryd.func15, Tryd.ntmps15
    go_wp2_with (refine (HI _).mono ?_; rintro e w2 ⟨rfl, rfl⟩)
    go_loop [15] (fun i => ∃ k : Nat, k ≤ 101 ∧ i = .int .i64 k ∧ ∀ j : Nat, j < k → rnd (100 * (j : Int)) 10000 65535 ≠ n) (fun i => 101 - (intOf i).toNat)
    case atStart => exact ⟨0, Nat.zero_le _, rfl, fun j hj => absurd hj (Nat.not_lt_zero _)⟩
    case round =>
      obtain ⟨k, hk, rfl, hno⟩ := hrel
      have HK := Lib.hid hno
      clear hno
      by_cases hlt : k < 101
      · by_cases hc : rnd (100 * (k : Int)) 10000 65535 = n
        · have hc' : (rnd (100 * (k : Int)) 10000 65535 == n) = true := by simpa using hc
          have HE := Lib.hid (HY.out k hlt hc)
          have hl2 := HL.out k hlt
          clear hc
          go_wp2_with (first | (go_at_call 43; refine (HP.out k hlt _).mono ?_; rintro e w1 ⟨rfl, rfl⟩) | (go_at_call 42; refine (HJ.out k hlt).mono ?_; rintro e w3 ⟨rfl, g⟩))
          go_returns
          exact ⟨HE.out.symm, g⟩
        · have hc' : (rnd (100 * (k : Int)) 10000 65535 == n) = false := by simpa using hc
          have HC := Lib.hid hc
          clear hc
          go_wp2_with (go_at_call 43; refine (HP.out k hlt _).mono ?_; rintro e w1 ⟨rfl, rfl⟩)
          go_round
          case rel =>
            refine ⟨k + 1, by omega, by go_num, fun j hj => ?_⟩
            by_cases e : j = k
            · rw [e]; exact HC.out
            · exact HK.out j (by omega)
          case measure => simp [intOf]; omega
      · obtain rfl : k = 101 := by omega
        have HE := Lib.hid (HZ.out HK.out)
        go_wp2_with (refine HN.out.mono ?_; rintro e w3 ⟨rfl, g⟩)
        go_returns
        exact ⟨HE.out.symm, g⟩

/-! Read. -/
def dV (l : List UInt8) : Int := if partsOk 3 2 l = true then partsV 2 l else 0
theorem parts3 (l : List UInt8) : (partsOk 9 2 l && decide (pV 2 l ≤ 10000)) = (partsOk 3 2 l && decide (dV l ≤ 10000)) ∧ (partsOk 3 2 l = true → pV 2 l = dV l) := by
  have h39 : partsOk 3 2 l = true → partsOk 9 2 l = true := by
    unfold partsOk
    intro h
    obtain ⟨h1, h2⟩ := Bool.and_eq_true_iff.1 h
    obtain ⟨a, b, c, d⟩ := numOk_iff.1 h1
    rw [numOk_iff.2 ⟨a, by omega, c, d⟩, h2]; rfl
  have h93 : partsOk 9 2 l = true → partsV 2 l ≤ 10000 → partsOk 3 2 l = true := by
    intro h hv
    obtain ⟨_, _, hb, _⟩ := read_show h
    unfold partsOk at h ⊢
    obtain ⟨h1, h2⟩ := Bool.and_eq_true_iff.1 h
    obtain ⟨a, _, c, d⟩ := numOk_iff.1 h1
    have hb : val (cut1 46 l).1 * 100 ≤ partsV 2 l := by simpa using hb
    have hl : (cut1 46 l).1.length ≤ 3 := by
      have h0 := (numOk_bd h1).1
      have e := numOk_back h1
      have := dd_len (val (cut1 46 l).1).toNat 3 (by decide) (by omega)
      rwa [← e] at this
    rw [numOk_iff.2 ⟨a, hl, c, d⟩, h2]; rfl
  refine ⟨?_, fun h => by unfold pV dV; rw [if_pos h, if_pos (h39 h)]⟩
  unfold pV dV
  by_cases h9 : partsOk 9 2 l = true
  · rw [if_pos h9, h9]
    by_cases hv : partsV 2 l ≤ 10000
    · have h3 := h93 h9 hv
      rw [if_pos h3, h3]
    · by_cases h3 : partsOk 3 2 l = true
      · rw [if_pos h3, h3]
      · rw [Bool.eq_false_iff.2 h3, decide_eq_false hv]; rfl
  · have h3 : partsOk 3 2 l = false := by rw [Bool.eq_false_iff]; intro h; exact h9 (h39 h)
    rw [Bool.eq_false_iff.2 h9, h3]
theorem hash_per (l : List UInt8) (h : l.head? = some 35) : lvPer l = false := by
  rw [lvPer_eq]
  have : partsOk 9 2 l.dropLast = false := by
    cases l with
    | nil => cases h
    | cons c t =>
      injection h with h
      subst h
      unfold partsOk
      cases t with
      | nil => rfl
      | cons d r =>
        have e : (cut1 46 (35 :: d :: r).dropLast).1 = 35 :: (cut1 46 (d :: r).dropLast).1 := rfl
        rw [e]
        have : numOk 9 (35 :: (cut1 46 (d :: r).dropLast).1) = false := by
          unfold numOk
          have : dgs (35 :: (cut1 46 (d :: r).dropLast).1) = false := rfl
          rw [this]; simp
        rw [this]; rfl
  rw [this]; simp
set_option maxRecDepth 100000 in
set_option maxHeartbeats 1600000 in
theorem readR (s : ByteArray) (w : World) (hs : s.size ≤ 4611686018427387904) :
    Calls Tryd.prog 17 #[.string s] w fun e w' => e = lrR s ∧ Bl w w' := by
  have g0 := Bl.refl w
  by_cases h1 : s.data.toList = [111, 117, 116]
  · have e : s = ⟨#[111, 117, 116]⟩ := Go.WideShapes.bytes_inj h1
    subst e
    have HE := Lib.hid lr_out
    clear h1
    go_enter Tryd.func17, Tryd.ntmps17
    go_wp2_with fail
    go_returns
    exact ⟨HE.out.symm, g0⟩
  by_cases h2 : s.data.toList = [102, 117, 108, 108]
  · have e : s = ⟨#[102, 117, 108, 108]⟩ := Go.WideShapes.bytes_inj h2
    subst e
    have HE := Lib.hid lr_full
    clear h1 h2
    go_enter Tryd.func17, Tryd.ntmps17
    go_wp2_with fail
    go_returns
    exact ⟨HE.out.symm, g0⟩
  have t1 := str_is h1
  have t2 := str_is h2
  obtain ⟨n1, n2⟩ := lv_not _ h1 h2
  have hll := lst_len s
  have HP := Lib.hid (fun w' (g : Bl w w') => show Calls Tryd.prog 44 #[.string s, .string ⟨#[35]⟩] w' fun e w'' => e = .returned (.tuple #[.string (bs (Lib.trimPrefix s.data.toList [35])), .bool (Lib.hasPrefix s.data.toList [35])]) ∧ Bl w w'' from
    (Tryd.strings_CutPrefix s ⟨#[35]⟩ w').mono fun e w'' ⟨h1, h2⟩ => ⟨h1, h2 ▸ g⟩)
  have HQ := Lib.hid (fun w' (g : Bl w w') => show Calls Tryd.prog 46 #[.string s, .string ⟨#[37]⟩] w' fun e w'' => e = .returned (.tuple #[.string (bs (Lib.trimSuffix s.data.toList [37])), .bool (Lib.hasSuffix s.data.toList [37])]) ∧ Bl w w'' from
    (Tryd.strings_CutSuffix s ⟨#[37]⟩ w' (by omega)).mono fun e w'' ⟨h1, h2⟩ => ⟨h1, h2 ▸ g⟩)
  obtain ⟨a1, a2⟩ := pre_of s.data.toList 35
  obtain ⟨b1, b2⟩ := suf_of s.data.toList 37
  have HN := Lib.hid (fun w' (g : Bl w w') => show Calls Tryd.prog 48 #[.string (bs (s.data.toList.drop 1)), .int .i64 9] w' fun e w'' => e = .returned (.tuple #[.int .i64 (numV (s.data.toList.drop 1)), .bool (numOk 9 (s.data.toList.drop 1))]) ∧ Bl w w'' from
    (numberR (bs (s.data.toList.drop 1)) 9 w' (by rw [bs_size]; simp; omega) (by decide)).mono fun e w'' ⟨h1, h2⟩ => ⟨by rw [h1]; unfold numM; rw [bs_list]; rfl, g.trans h2⟩)
  have HR0 := fun (u : List UInt8) (hu : u.length ≤ s.size) w' (g : Bl w w') => show Calls Tryd.prog 49 #[.string (bs u), .int .i64 3, .int .i64 2] w' fun e w'' => e = .returned (.tuple #[.int .i64 (dV u), .bool (partsOk 3 2 u)]) ∧ Bl w w'' from
    (decimalR (bs u) 3 2 w' (by rw [bs_size]; omega) (by decide) (by decide)).mono fun e w'' ⟨h1, h2⟩ => ⟨by rw [h1]; unfold decM; rw [bs_list]; rfl, g.trans h2⟩
  have hts : (Lib.trimSuffix s.data.toList [37]).length ≤ s.size := by
    unfold Lib.trimSuffix
    by_cases h : Lib.hasSuffix s.data.toList [37] = true
    · rw [if_pos h, ← hll]; simp
    · rw [if_neg h, ← hll]; exact Nat.le_refl _
  have HR1 := Lib.hid (HR0 _ hts)
  have HR := Lib.hid (HR0 s.data.toList.dropLast (by simp))
  have HI := Lib.hid (fun w' (g : Bl w w') => show Calls Tryd.prog 18 #[.int .i64 (numV (s.data.toList.drop 1))] w' fun e w'' => e = .returned (.bool (isLev (numV (s.data.toList.drop 1)))) ∧ Bl w w'' from
    (isLevelI _ w').mono fun e w'' ⟨h1, h2⟩ => ⟨h1, h2 ▸ g⟩)
  obtain ⟨c1, c2⟩ := parts3 s.data.toList.dropLast
  have u0 : partsOk 3 2 s.data.toList.dropLast = true → 0 ≤ dV s.data.toList.dropLast := fun h => by rw [← c2 h]; exact pV2_bd _
  have HO := Lib.hid (fun (hu : partsOk 3 2 s.data.toList.dropLast = true) (hv : dV s.data.toList.dropLast ≤ 10000) w' (g : Bl w w') => show Calls Tryd.prog 43 #[.int .i64 (dV s.data.toList.dropLast)] w' fun e w'' => e = .returned (.int .i64 (rnd (dV s.data.toList.dropLast) 10000 65535)) ∧ Bl w w'' from
    (percentR _ w' (u0 hu) (by omega)).mono fun e w'' ⟨h1, h2⟩ => ⟨h1, h2 ▸ g⟩)
  have hE : lrR s = .returned (.tuple #[.int .i64 (lvRead s.data.toList), .int .i64 (if lvOk s.data.toList = true then 0 else 9)]) := rfl
  rw [n1, n2] at hE
  have hhp := hash_per s.data.toList
  have hnv : numOk 9 (s.data.toList.drop 1) = true → numV (s.data.toList.drop 1) = val (s.data.toList.drop 1) ∧ isLev (numV (s.data.toList.drop 1)) = decide (val (s.data.toList.drop 1) ≤ 65535) := fun h => by
    rw [numV_ok h]
    refine ⟨rfl, ?_⟩
    have := (numOk_bd h).1
    unfold isLev
    rw [decide_eq_true this, Bool.true_and]
  have pre : (s.data.toList.head? = some 35 ∧ numOk 9 (s.data.toList.drop 1) = false) ∨ (s.data.toList.head? = some 35 ∧ numOk 9 (s.data.toList.drop 1) = true ∧ ¬ val (s.data.toList.drop 1) ≤ 65535) ∨ (s.data.toList.head? = some 35 ∧ numOk 9 (s.data.toList.drop 1) = true ∧ val (s.data.toList.drop 1) ≤ 65535) ∨ (s.data.toList.head? ≠ some 35) := by
    by_cases x : s.data.toList.head? = some 35
    · cases y : numOk 9 (s.data.toList.drop 1) with
      | false => exact Or.inl ⟨x, rfl⟩
      | true =>
        by_cases z : val (s.data.toList.drop 1) ≤ 65535
        · exact Or.inr (Or.inr (Or.inl ⟨x, rfl, z⟩))
        · exact Or.inr (Or.inl ⟨x, rfl, z⟩)
    · exact Or.inr (Or.inr (Or.inr x))
  have suf : (s.data.toList.getLast? ≠ some 37) ∨ (s.data.toList.getLast? = some 37 ∧ partsOk 3 2 s.data.toList.dropLast = false) ∨ (s.data.toList.getLast? = some 37 ∧ partsOk 3 2 s.data.toList.dropLast = true ∧ ¬ dV s.data.toList.dropLast ≤ 10000) ∨ (s.data.toList.getLast? = some 37 ∧ partsOk 3 2 s.data.toList.dropLast = true ∧ dV s.data.toList.dropLast ≤ 10000) := by
    by_cases x : s.data.toList.getLast? = some 37
    · cases y : partsOk 3 2 s.data.toList.dropLast with
      | false => exact Or.inr (Or.inl ⟨x, rfl⟩)
      | true =>
        by_cases z : dV s.data.toList.dropLast ≤ 10000
        · exact Or.inr (Or.inr (Or.inr ⟨x, rfl, z⟩))
        · exact Or.inr (Or.inr (Or.inl ⟨x, rfl, z⟩))
    · exact Or.inl x
  clear n1 n2 h1 h2 hll hs HR0 hts u0
  rcases pre with ⟨p1, p2⟩ | ⟨p1, p2, p3⟩ | ⟨p1, p2, p3⟩ | p1
  · rw [a1, a2 p1, p1] at HP
    rw [numV_no p2, p2] at HN
    rw [hhp p1, lvHash_eq, p1, p2] at hE
    have HE := Lib.hid (show lrR s = .returned (.tuple #[.int .i64 0, .int .i64 9]) by rw [hE]; rfl)
    generalize bs (List.drop 1 s.data.toList) = T1 at HP HN
    clear HI hnv a1 a2 p1 p2 hE hhp b1 b2 c1 c2 HQ HR HR1 HO suf
    go_enter Tryd.func17, Tryd.ntmps17
    go_wp2_with (first | (go_at_call 44; refine (HP.out _ (by assumption)).mono ?_; rintro e w1 ⟨rfl, g1⟩) | (go_at_call 48; refine (HN.out _ (by assumption)).mono ?_; rintro e w1 ⟨rfl, g2⟩))
    go_returns
    exact ⟨HE.out.symm, by assumption⟩
  · rw [a1, a2 p1, p1] at HP
    obtain ⟨q1, q2⟩ := hnv p2
    rw [q2, q1, decide_eq_false p3] at HI
    rw [q1, p2] at HN
    rw [hhp p1, lvHash_eq, p1, p2, decide_eq_false p3] at hE
    have HE := Lib.hid (show lrR s = .returned (.tuple #[.int .i64 0, .int .i64 9]) by rw [hE]; rfl)
    generalize bs (List.drop 1 s.data.toList) = T1 at HP HN
    clear hnv a1 a2 p1 p2 p3 q1 q2 hE hhp b1 b2 c1 c2 HQ HR HR1 HO suf
    generalize val (List.drop 1 s.data.toList) = v at *
    go_enter Tryd.func17, Tryd.ntmps17
    go_wp2_with (first | (go_at_call 44; refine (HP.out _ (by assumption)).mono ?_; rintro e w1 ⟨rfl, g1⟩) | (go_at_call 48; refine (HN.out _ (by assumption)).mono ?_; rintro e w1 ⟨rfl, g2⟩) | (go_at_call 18; refine (HI.out _ (by assumption)).mono ?_; rintro e w1 ⟨rfl, g3⟩))
    go_returns
    exact ⟨HE.out.symm, by assumption⟩
  · rw [a1, a2 p1, p1] at HP
    obtain ⟨q1, q2⟩ := hnv p2
    rw [q2, q1, decide_eq_true p3] at HI
    rw [q1, p2] at HN
    rw [hhp p1, lvHash_eq, p1, p2, decide_eq_true p3] at hE
    have HE := Lib.hid (show lrR s = .returned (.tuple #[.int .i64 (val (s.data.toList.drop 1)), .int .i64 0]) by rw [hE]; rfl)
    generalize bs (List.drop 1 s.data.toList) = T1 at HP HN
    clear hnv a1 a2 p1 p2 p3 q1 q2 hE hhp b1 b2 c1 c2 HQ HR HR1 HO suf
    generalize val (List.drop 1 s.data.toList) = v at *
    go_enter Tryd.func17, Tryd.ntmps17
    go_wp2_with (first | (go_at_call 44; refine (HP.out _ (by assumption)).mono ?_; rintro e w1 ⟨rfl, g1⟩) | (go_at_call 48; refine (HN.out _ (by assumption)).mono ?_; rintro e w1 ⟨rfl, g2⟩) | (go_at_call 18; refine (HI.out _ (by assumption)).mono ?_; rintro e w1 ⟨rfl, g3⟩))
    go_returns
    exact ⟨HE.out.symm, by assumption⟩
  · have p2 : (s.data.toList.head? == some 35) = false := by simpa using p1
    rw [a1, p2] at HP
    rw [lvHash_eq, p2, lvPer_eq, c1] at hE
    generalize bs (Lib.trimPrefix s.data.toList [35]) = T1 at HP
    clear HN HI hnv a1 a2 p1 p2 hhp c1
    rcases suf with p1 | ⟨p1, p2⟩ | ⟨p1, p2, p3⟩ | ⟨p1, p2, p3⟩
    · have p2 : (s.data.toList.getLast? == some 37) = false := by simpa using p1
      rw [b1, p2] at HQ
      rw [p2] at hE
      have HE := Lib.hid (show lrR s = .returned (.tuple #[.int .i64 0, .int .i64 9]) by rw [hE]; rfl)
      clear HR HO b1 b2 p1 p2 hE c2
      generalize bs (Lib.trimSuffix s.data.toList [37]) = T2 at HQ HR1
      generalize dV (Lib.trimSuffix s.data.toList [37]) = v at HR1
      generalize partsOk 3 2 (Lib.trimSuffix s.data.toList [37]) = b at HR1
      go_enter Tryd.func17, Tryd.ntmps17
      go_wp2_with (first | (go_at_call 44; refine (HP.out _ (by assumption)).mono ?_; rintro e w1 ⟨rfl, g1⟩) | (go_at_call 46; refine (HQ.out _ (by assumption)).mono ?_; rintro e w1 ⟨rfl, g4⟩) | (go_at_call 49; refine (HR1.out _ (by assumption)).mono ?_; rintro e w1 ⟨rfl, g5⟩))
      go_returns
      exact ⟨HE.out.symm, by assumption⟩
    · rw [b1, b2 p1, p1] at HQ
      rw [p2] at HR
      rw [p1, p2] at hE
      have HE := Lib.hid (show lrR s = .returned (.tuple #[.int .i64 0, .int .i64 9]) by rw [hE]; rfl)
      clear HR1 HO b1 b2 p1 p2 hE c2
      generalize bs s.data.toList.dropLast = T2 at HQ HR
      generalize dV s.data.toList.dropLast = u at *
      go_enter Tryd.func17, Tryd.ntmps17
      go_wp2_with (first | (go_at_call 44; refine (HP.out _ (by assumption)).mono ?_; rintro e w1 ⟨rfl, g1⟩) | (go_at_call 46; refine (HQ.out _ (by assumption)).mono ?_; rintro e w1 ⟨rfl, g4⟩) | (go_at_call 49; refine (HR.out _ (by assumption)).mono ?_; rintro e w1 ⟨rfl, g5⟩))
      go_returns
      exact ⟨HE.out.symm, by assumption⟩
    · rw [b1, b2 p1, p1] at HQ
      rw [p2] at HR
      rw [p1, p2, decide_eq_false p3] at hE
      have HE := Lib.hid (show lrR s = .returned (.tuple #[.int .i64 0, .int .i64 9]) by rw [hE]; rfl)
      clear HR1 HO b1 b2 p1 p2 hE c2
      generalize bs s.data.toList.dropLast = T2 at HQ HR
      generalize dV s.data.toList.dropLast = u at *
      have p3 : 10000 < u := by omega
      go_enter Tryd.func17, Tryd.ntmps17
      go_wp2_with (first | (go_at_call 44; refine (HP.out _ (by assumption)).mono ?_; rintro e w1 ⟨rfl, g1⟩) | (go_at_call 46; refine (HQ.out _ (by assumption)).mono ?_; rintro e w1 ⟨rfl, g4⟩) | (go_at_call 49; refine (HR.out _ (by assumption)).mono ?_; rintro e w1 ⟨rfl, g5⟩))
      go_returns
      exact ⟨HE.out.symm, by assumption⟩
    · rw [b1, b2 p1, p1] at HQ
      replace HO := Lib.hid (HO.out p2 p3)
      rw [p2] at HR
      rw [c2 p2, p1, p2, decide_eq_true p3] at hE
      have HE := Lib.hid (show lrR s = .returned (.tuple #[.int .i64 (rnd (dV s.data.toList.dropLast) 10000 65535), .int .i64 0]) by rw [hE]; rfl)
      clear HR1 b1 b2 p1 p2 hE c2
      generalize bs s.data.toList.dropLast = T2 at HQ HR
      generalize dV s.data.toList.dropLast = u at *
      go_enter Tryd.func17, Tryd.ntmps17
      go_wp2_with (first | (go_at_call 44; refine (HP.out _ (by assumption)).mono ?_; rintro e w1 ⟨rfl, g1⟩) | (go_at_call 46; refine (HQ.out _ (by assumption)).mono ?_; rintro e w1 ⟨rfl, g4⟩) | (go_at_call 49; refine (HR.out _ (by assumption)).mono ?_; rintro e w1 ⟨rfl, g5⟩) | (go_at_call 43; refine (HO.out _ (by assumption)).mono ?_; rintro e w1 ⟨rfl, g6⟩))
      go_returns
      exact ⟨HE.out.symm, by assumption⟩
end Go.Proofs.YtfeeolfekfkdiaaDoor
