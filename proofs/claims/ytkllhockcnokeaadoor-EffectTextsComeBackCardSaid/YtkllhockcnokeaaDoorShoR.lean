/- Show of the reference. -/
import Derived.Test.YtkllhockcnokeaaDoorRefI
import Derived.Test.YtkllhockcnokeaaDoorLvT
namespace Go.Proofs.YtkllhockcnokeaaDoor
open Go.RowKit Go.Lib Go.Sort

theorem pct_rnd (h : Int) : (h * 65535 + 5000) / 10000 = rnd h 10000 65535 := by
  unfold rnd
  rw [show 2 * 65535 * h + 10000 = 2 * (h * 65535 + 5000) by omega, show (2 * 10000 : Int) = 2 * 10000 from rfl, Int.mul_ediv_mul_of_pos _ _ (by decide)]
set_option maxHeartbeats 400000 in
theorem percentR (h : Int) (w : World) (h0 : 0 ≤ h) (h1 : h ≤ 1000000) :
    Calls Tryd.prog 49 #[.int .i64 h] w fun e w' => e = .returned (.int .i64 (rnd h 10000 65535)) ∧ w = w' := by
  have HE := Lib.hid (pct_rnd h)
  go_enter Tryd.func49, Tryd.ntmps49
  go_wp2
  go_returns
  refine ⟨?_, rfl⟩
  rw [← HE.out]; rfl
theorem pct_back {k n : Int} (h : rnd (100 * k) 10000 65535 = n) : rnd n 65535 100 = k := by
  unfold rnd at h ⊢
  omega
theorem lv_pct {n k : Int} (n0 : n ≠ 0) (n1 : n ≠ 65535) (h : rnd (100 * k) 10000 65535 = n) : lvShow n = decDigits k.toNat ++ [37] := by
  have hb := pct_back h
  unfold lvShow
  rw [if_neg n0, if_neg n1, hb, if_pos (by rw [Int.mul_comm]; exact h)]
theorem lv_num {n : Int} (n0 : n ≠ 0) (n1 : n ≠ 65535) (a0 : 0 ≤ n) (a1 : n ≤ 65535) (h : ∀ k : Nat, k < 101 → rnd (100 * (k : Int)) 10000 65535 ≠ n) : lvShow n = 35 :: decDigits n.toNat := by
  have p0 : 0 ≤ rnd n 65535 100 := rnd_nonneg (by decide) a0 (by decide)
  have p1 : rnd n 65535 100 ≤ 100 := rnd_le (by decide) a1 (by decide)
  have := h (rnd n 65535 100).toNat (by omega)
  rw [Int.toNat_of_nonneg p0] at this
  unfold lvShow
  rw [if_neg n0, if_neg n1, if_neg (by rw [Int.mul_comm]; exact this)]
set_option maxHeartbeats 1600000 in
theorem showR (n : Int) (w : World) (ht : TabIs Tryd.prog w "internal/strconv.uint64pow10" .u64 pow10Tab) :
    Calls Tryd.prog 32 #[.int .i64 n] w fun e w' => e = lsR n ∧ Gr w w' := by
  have HI := fun w => isLevelI n w
  have HT := Lib.hid ht
  clear ht
  cases hm : isLev n with
  | false =>
    rw [hm] at HI
    have HR := Lib.hid (show lsR n = .returned (.tuple #[.string (bs []), .int .i64 1]) by unfold lsR; rw [hm]; rfl)
    clear hm
    go_enter Tryd.func32, Tryd.ntmps32
    go_wp2_with (refine (HI _).mono ?_; rintro e w2 ⟨rfl, rfl⟩)
    go_returns
    exact ⟨HR.out.symm, Gr.refl _⟩
  | true =>
    rw [hm] at HI
    obtain ⟨h0, h1⟩ := isLev_iff.1 hm
    have hR : lsR n = .returned (.tuple #[.string (bs (lvShow n)), .int .i64 0]) := by unfold lsR; rw [hm]; rfl
    by_cases n0 : n = 0
    · have HR := Lib.hid (show lsR n = .returned (.tuple #[.string (bs [111, 117, 116]), .int .i64 0]) by rw [hR]; unfold lvShow; rw [if_pos n0])
      have n0' : (n == 0) = true := by rw [n0]; rfl
      clear hm hR n0
      go_enter Tryd.func32, Tryd.ntmps32
      go_wp2_with (refine (HI _).mono ?_; rintro e w2 ⟨rfl, rfl⟩)
      go_returns
      exact ⟨HR.out.symm, Gr.refl _⟩
    have n0' : (n == 0) = false := beq_eq_false_iff_ne.2 n0
    by_cases n1 : n = 65535
    · have HR := Lib.hid (show lsR n = .returned (.tuple #[.string (bs [102, 117, 108, 108]), .int .i64 0]) by rw [hR]; unfold lvShow; rw [if_neg n0, if_pos n1])
      have n1' : (n == 65535) = true := by rw [n1]; rfl
      clear hm hR n0 n1
      go_enter Tryd.func32, Tryd.ntmps32
      go_wp2_with (refine (HI _).mono ?_; rintro e w2 ⟨rfl, rfl⟩)
      go_returns
      exact ⟨HR.out.symm, Gr.refl _⟩
    have n1' : (n == 65535) = false := beq_eq_false_iff_ne.2 n1
    have HP := Lib.hid (fun (k : Nat) (hk : k < 101) w => percentR (100 * (k : Int)) w (by omega) (by omega))
    have HY := Lib.hid (fun (k : Nat) (hk : k < 101) (h : rnd (100 * (k : Int)) 10000 65535 = n) => show lsR n = .returned (.tuple #[.string (bs (decDigits k) ++ bs [37]), .int .i64 0]) by
      rw [hR, lv_pct n0 n1 h, bs_app]; rfl)
    have HZ := Lib.hid (fun (h : ∀ k : Nat, k < 101 → rnd (100 * (k : Int)) 10000 65535 ≠ n) => show lsR n = .returned (.tuple #[.string (bs [35] ++ bs (decDigits n.toNat)), .int .i64 0]) by
      rw [hR, lv_num n0 n1 h0 h1 h, bs_app]; rfl)
    have HJ := Lib.hid (fun (k : Nat) (hk : k < 101) => show Calls Tryd.prog 15 #[.int .i64 (k : Int)] w fun e w' => e = .returned (.string (bs (decDigits k))) ∧ Gr w w' from
      itoa_any (k : Int) w (by omega) (by omega) HT.out)
    have HL := Lib.hid (fun (k : Nat) (hk : k < 101) => show (bs (decDigits k)).size ≤ 10 by rw [bs_size]; exact dd_len _ _ (by decide) (by omega))
    have HN := Lib.hid (itoa_any n w h0 (by omega) HT.out)
    have hl : (bs (decDigits n.toNat)).size ≤ 10 := by rw [bs_size]; exact dd_len _ _ (by decide) (by omega)
    clear hm hR n0 n1
    go_enter Tryd.func32, Tryd.ntmps32
    go_wp2_with (refine (HI _).mono ?_; rintro e w2 ⟨rfl, rfl⟩)
    go_loop [15] (fun i => ∃ k : Nat, k ≤ 101 ∧ i = .int .i64 k ∧ ∀ j : Nat, j < k → rnd (100 * (j : Int)) 10000 65535 ≠ n) (fun i => 101 - (intOf i).toNat)
    case atStart => exact ⟨0, Nat.zero_le _, rfl, fun j hj => absurd hj (Nat.not_lt_zero _)⟩
    case round =>
      obtain ⟨k, hk, rfl, hno⟩ := hrel
      have HK := Lib.hid hno
      clear hno
      by_cases hlt : k < 101
      · by_cases hc : rnd (100 * (k : Int)) 10000 65535 = n
        · have hc' : (rnd (100 * (k : Int)) 10000 65535 == n) = true := by simpa using hc
          have HE := Lib.hid (HY.out k hlt hc)
          have hl2 := HL.out k hlt
          clear hc
          go_wp2_with (first | (go_at_call 49; refine (HP.out k hlt _).mono ?_; rintro e w1 ⟨rfl, rfl⟩) | (go_at_call 15; refine (HJ.out k hlt).mono ?_; rintro e w3 ⟨rfl, g⟩))
          go_returns
          exact ⟨HE.out.symm, g⟩
        · have hc' : (rnd (100 * (k : Int)) 10000 65535 == n) = false := by simpa using hc
          have HC := Lib.hid hc
          clear hc
          go_wp2_with (go_at_call 49; refine (HP.out k hlt _).mono ?_; rintro e w1 ⟨rfl, rfl⟩)
          go_round
          case rel =>
            refine ⟨k + 1, by omega, by go_num, fun j hj => ?_⟩
            by_cases e : j = k
            · rw [e]; exact HC.out
            · exact HK.out j (by omega)
          case measure => simp [intOf]; omega
      · obtain rfl : k = 101 := by omega
        have HE := Lib.hid (HZ.out HK.out)
        go_wp2_with (refine HN.out.mono ?_; rintro e w3 ⟨rfl, g⟩)
        go_returns
        exact ⟨HE.out.symm, g⟩

/-! Read. -/
end Go.Proofs.YtkllhockcnokeaaDoor
