/- Times of package level: ShowTime. -/
import Derived.Test.YtfeeolfekfkdiaaDoorTimP
namespace Go.Proofs.YtfeeolfekfkdiaaDoor
open Go.RowKit Go.Lib

theorem itoa_nat (n : Int) (h : 0 ≤ n) : Lib.itoa n = decDigits n.toNat := by unfold Lib.itoa; rw [if_neg (by omega)]
theorem itoa_any (n : Int) (w : World) (h0 : 0 ≤ n) (h1 : n ≤ 9223372036854775807) (ht : TabIs Tryd.prog w "internal/strconv.uint64pow10" .u64 pow10Tab) :
    Calls Tryd.prog 42 #[.int .i64 n] w fun e w' => e = .returned (.string (bs (decDigits n.toNat))) ∧ Gr w w' := by
  refine (Tryd.strconv_Itoa n (by omega) h1 w ht).mono ?_
  rintro e w' ⟨rfl, hw⟩
  exact ⟨by rw [itoa_nat n h0]; rfl, Gr.of_grow hw⟩
theorem bs_app (a b : List UInt8) : bs a ++ bs b = bs (a ++ b) := by
  apply Go.WideShapes.bytes_inj
  rw [bs_list]
  simp [bs]
theorem bs_tail (c : UInt8) (l : List UInt8) : (bs (c :: l)).extract 1 (bs (c :: l)).size = bs l := by
  apply Go.WideShapes.bytes_inj
  rw [Lib.extract_to_end, bs_list, bs_list]; rfl
theorem trim_any (l : List UInt8) (w : World) (hl : l.length ≤ 9223372036854775807) :
    Calls Tryd.prog 82 #[.string (bs l), .string ⟨#[48]⟩] w fun e w' => e = .returned (.string (bs (Lib.trimRightB l 48))) ∧ w = w' := by
  refine (Tryd.strings_TrimRight_one (bs l) 48 (by decide) w (by rw [bs_size]; exact hl)).mono ?_
  rintro e w' ⟨rfl, hw⟩
  exact ⟨by rw [bs_list]; rfl, hw.symm⟩
theorem dd_len (u k : Nat) (hk : 1 ≤ k) (h : u < 10 ^ k) : (decDigits u).length ≤ k := by rw [decDigits_length]; exact nDigits_lt hk h
theorem trim_len (p r : Nat) : (trimRightB (padD p r) 48).length ≤ p := by
  obtain ⟨k, h, _⟩ := trim_split (padD p r)
  have := congrArg List.length h
  rw [padD_len] at this
  simp at this
  omega
set_option maxHeartbeats 800000 in
theorem showParts_any (n : Int) (w : World) (h0 : 0 ≤ n) (h1 : n ≤ 1000000000000) (ht : TabIs Tryd.prog w "internal/strconv.uint64pow10" .u64 pow10Tab) :
    Calls Tryd.prog 51 #[.int .i64 n, .int .i64 3] w fun e w' => e = .returned (.string (bs (showD 3 n.toNat))) ∧ Gr w w' := by
  have HT := Lib.hid ht
  have hs : showD 3 n.toNat = decDigits (n / 1000).toNat ++ if n % 1000 = 0 then [] else 46 :: trimRightB (padD 3 (n % 1000).toNat) 48 := by
    unfold showD
    rw [show (10 : Nat) ^ 3 = 1000 from rfl, show n.toNat / 1000 = (n / 1000).toNat by omega, show n.toNat % 1000 = (n % 1000).toNat by omega]
    by_cases h : n % 1000 = 0
    · rw [if_pos h, if_pos (by omega)]
    · rw [if_neg h, if_neg (by omega)]
  have HI := Lib.hid (fun w (g : TabIs Tryd.prog w "internal/strconv.uint64pow10" .u64 pow10Tab) => itoa_any (n / 1000) w (by omega) (by omega) g)
  clear ht
  by_cases hz : n % 1000 = 0
  · have hz' : (n % 1000 == 0) = true := by rw [hz]; rfl
    have HS := Lib.hid (show showD 3 n.toNat = decDigits (n / 1000).toNat by rw [hs, if_pos hz, List.append_nil])
    clear hs hz
    go_enter Tryd.func51, Tryd.ntmps51
    go_wp2
    refine wp_loop_rounds 4 ?_
    rw [rounds_succ]
    go_wp2
    rw [rounds_succ]
    go_wp2
    rw [rounds_succ]
    go_wp2
    rw [rounds_succ]
    go_wp2_with (refine (HI.out _ HT.out).mono ?_; rintro e w1 ⟨rfl, g⟩)
    go_returns
    refine ⟨?_, g⟩
    rw [HS.out]; rfl
  · have hz' : (n % 1000 == 0) = false := beq_eq_false_iff_ne.2 hz
    have HS := Lib.hid (show showD 3 n.toNat = decDigits (n / 1000).toNat ++ 46 :: trimRightB (padD 3 (n % 1000).toNat) 48 by rw [hs, if_neg hz])
    have HJ := Lib.hid (fun w (g : TabIs Tryd.prog w "internal/strconv.uint64pow10" .u64 pow10Tab) => show Calls Tryd.prog 42 #[.int .i64 (1000 + n % 1000)] w fun e w' => e = .returned (.string (bs (49 :: padD 3 (n % 1000).toNat))) ∧ Gr w w' from by
      have := itoa_any (1000 + n % 1000) w (by omega) (by omega) g
      rw [show (1000 + n % 1000).toNat = 10 ^ 3 + (n % 1000).toNat by rw [show (10 : Nat) ^ 3 = 1000 from rfl]; omega, dd_pad 3 _ (by rw [show (10 : Nat) ^ 3 = 1000 from rfl]; omega)] at this
      exact this)
    have HR := Lib.hid (fun w => trim_any (padD 3 (n % 1000).toNat) w (by rw [padD_len]; decide))
    have hbt := bs_tail 49 (padD 3 (n % 1000).toNat)
    have hsz : (1 : Int) ≤ ((bs (49 :: padD 3 (n % 1000).toNat)).size : Int) := by rw [bs_size, List.length_cons]; omega
    have hs1 : (bs (decDigits (n / 1000).toNat)).size ≤ 10 := by rw [bs_size]; exact dd_len _ _ (by decide) (by omega)
    have hs2 : (bs (trimRightB (padD 3 (n % 1000).toNat) 48)).size ≤ 3 := by rw [bs_size]; exact trim_len _ _
    have m0 : 0 ≤ n % 1000 := by omega
    have m1 : n % 1000 < 1000 := by omega
    clear hs hz
    go_enter Tryd.func51, Tryd.ntmps51
    go_wp2
    refine wp_loop_rounds 4 ?_
    rw [rounds_succ]
    go_wp2
    rw [rounds_succ]
    go_wp2
    rw [rounds_succ]
    go_wp2
    rw [rounds_succ]
    go_wp2_with fail
    refine (HI.out _ HT.out).mono ?_
    rintro e w1 ⟨rfl, g⟩
    go_wp2_with fail
    refine (HJ.out _ (tab_bl HT.out g.bl)).mono ?_
    rintro e w2 ⟨rfl, g2⟩
    go_wp2_with fail
    refine (HR.out _).mono ?_
    rintro e w3 ⟨rfl, rfl⟩
    go_wp2_with fail
    go_returns
    refine ⟨?_, g.trans g2⟩
    rw [HS.out]
    show Ending.returned (.string (bs (decDigits (n / 1000).toNat) ++ bs [46] ++ bs (trimRightB (padD 3 (n % 1000).toNat) 48))) = _
    rw [bs_app, bs_app, List.append_assoc]
    rfl

/-! ShowTime. -/
def stR (n : Int) : Ending := .returned (.tuple #[.string (bs (if isTm n = true then showT n.toNat else [])), .int .i64 (if isTm n = true then 0 else 1)])
theorem showD_len (n : Nat) (h : n < 60000) : (showD 3 n).length ≤ 10 := by
  unfold showD
  rw [show (10 : Nat) ^ 3 = 1000 from rfl]
  have h1 := dd_len (n / 1000) 2 (by decide) (by omega)
  have h2 := trim_len 3 (n % 1000)
  by_cases hz : n % 1000 = 0
  · rw [if_pos hz]; simp; omega
  · rw [if_neg hz]; simp; omega
set_option maxHeartbeats 1600000 in
theorem showTime_any (n : Int) (w : World) (ht : TabIs Tryd.prog w "internal/strconv.uint64pow10" .u64 pow10Tab) :
    Calls Tryd.prog 19 #[.int .i64 n] w fun e w' => e = stR n ∧ Gr w w' := by
  have HT := Lib.hid ht
  have HI := fun w => isTime_any n w
  clear ht
  cases hm : isTm n with
  | false =>
    rw [hm] at HI
    have HR := Lib.hid (show stR n = .returned (.tuple #[.string (bs []), .int .i64 1]) by unfold stR; rw [hm]; rfl)
    clear hm
    go_enter Tryd.func19, Tryd.ntmps19
    go_wp2_with (refine (HI _).mono ?_; rintro e w2 ⟨rfl, rfl⟩)
    go_returns
    exact ⟨HR.out.symm, Gr.refl _⟩
  | true =>
    rw [hm] at HI
    obtain ⟨h0, h1⟩ := isTm_iff.1 hm
    have hR : stR n = .returned (.tuple #[.string (bs (showT n.toNat)), .int .i64 0]) := by unfold stR; rw [hm]; rfl
    have hs : showT n.toNat = if n / 60000 = 0 then showD 3 (n % 60000).toNat else decDigits (n / 60000).toNat ++ 58 :: (if n % 60000 < 10000 then 48 :: showD 3 (n % 60000).toNat else showD 3 (n % 60000).toNat) := by
      unfold showT
      rw [show n.toNat / 60000 = (n / 60000).toNat by omega, show n.toNat % 60000 = (n % 60000).toNat by omega]
      by_cases a : n / 60000 = 0
      · rw [if_pos a, if_pos (by omega)]
      · rw [if_neg a, if_neg (by omega)]
        by_cases b : n % 60000 < 10000
        · rw [if_pos b, if_pos (by omega)]
        · rw [if_neg b, if_neg (by omega)]
    have HP := Lib.hid (fun w (g : TabIs Tryd.prog w "internal/strconv.uint64pow10" .u64 pow10Tab) => showParts_any (n % 60000) w (by omega) (by omega) g)
    have HJ := Lib.hid (fun w (g : TabIs Tryd.prog w "internal/strconv.uint64pow10" .u64 pow10Tab) => itoa_any (n / 60000) w (by omega) (by omega) g)
    have hl1 : (bs (showD 3 (n % 60000).toNat)).size ≤ 10 := by rw [bs_size]; exact showD_len _ (by omega)
    have hl2 : (bs (decDigits (n / 60000).toNat)).size ≤ 10 := by rw [bs_size]; exact dd_len _ _ (by decide) (by omega)
    rw [hs] at hR
    clear hm hs
    by_cases a : n / 60000 = 0
    · rw [if_pos a] at hR
      have HR := Lib.hid hR
      have a' : (n / 60000 == 0) = true := by rw [a]; rfl
      clear hR a
      go_enter Tryd.func19, Tryd.ntmps19
      go_wp2_with (first | (refine (HI _).mono ?_; rintro e w2 ⟨rfl, rfl⟩) | (refine (HP.out _ HT.out).mono ?_; rintro e w3 ⟨rfl, g⟩))
      go_returns
      exact ⟨HR.out.symm, g⟩
    · rw [if_neg a] at hR
      have a' : (n / 60000 == 0) = false := beq_eq_false_iff_ne.2 a
      by_cases b : n % 60000 < 10000
      · rw [if_pos b] at hR
        have HR := Lib.hid hR
        clear hR a
        go_enter Tryd.func19, Tryd.ntmps19
        go_wp2_with (first | (refine (HI _).mono ?_; rintro e w2 ⟨rfl, rfl⟩) | (refine (HP.out _ HT.out).mono ?_; rintro e w3 ⟨rfl, g⟩) | (refine (HJ.out _ (tab_bl HT.out g.bl)).mono ?_; rintro e w4 ⟨rfl, g2⟩))
        go_returns
        refine ⟨?_, g.trans g2⟩
        rw [HR.out]
        show Ending.returned (.tuple #[.string (bs (decDigits (n / 60000).toNat) ++ bs [58] ++ (bs [48] ++ bs (showD 3 (n % 60000).toNat))), .int .i64 0]) = _
        rw [bs_app, bs_app, bs_app, List.append_assoc]
        rfl
      · rw [if_neg b] at hR
        have HR := Lib.hid hR
        clear hR a
        go_enter Tryd.func19, Tryd.ntmps19
        go_wp2_with (first | (refine (HI _).mono ?_; rintro e w2 ⟨rfl, rfl⟩) | (refine (HP.out _ HT.out).mono ?_; rintro e w3 ⟨rfl, g⟩) | (refine (HJ.out _ (tab_bl HT.out g.bl)).mono ?_; rintro e w4 ⟨rfl, g2⟩))
        go_returns
        refine ⟨?_, g.trans g2⟩
        rw [HR.out]
        show Ending.returned (.tuple #[.string (bs (decDigits (n / 60000).toNat) ++ bs [58] ++ bs (showD 3 (n % 60000).toNat)), .int .i64 0]) = _
        rw [bs_app, bs_app, List.append_assoc]
        rfl
end Go.Proofs.YtfeeolfekfkdiaaDoor
