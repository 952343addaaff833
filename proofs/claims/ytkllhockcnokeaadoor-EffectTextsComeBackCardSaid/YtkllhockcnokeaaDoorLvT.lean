/- Texts of levels: Show and Read of the program, for all numbers and texts. -/
import Derived.Test.YtkllhockcnokeaaDoorTimS
import Derived.Test.YtkllhockcnokeaaDoorLev
namespace Go.Proofs.YtkllhockcnokeaaDoor
open Go.RowKit Go.Lib Go.Sort

set_option maxHeartbeats 400000 in
theorem ofPercent_any (h : Int) (w : World) (h0 : 0 ≤ h) (h1 : h ≤ 10000) :
    Calls Tryd.prog 47 #[.int .i64 h] w fun e w' => e = .returned (.int .i64 (rnd h 10000 65535)) ∧ Gr w w' := by
  go_enter Tryd.func47, Tryd.ntmps47
  go_wp2_with (first | (go_at_call 45; refine (share_any h 10000 _ h0 (by omega) (by omega) (by omega)).mono ?_; rintro e w1 ⟨nh, nl, dh, dl, rfl, HH, hg⟩) | (go_at_call 46; refine (of_any nh nl dh dl h 10000 65535 _ HH.1 HH.2 ⟨h0, h1, by omega, by omega⟩ (by omega) (by omega)).mono ?_; rintro e w2 ⟨rfl, hg2⟩))
  go_returns
  exact ⟨rfl, hg.trans hg2⟩

def lsR (n : Int) : Ending := .returned (.tuple #[.string (bs (if isLev n = true then lvShow n else [])), .int .i64 (if isLev n = true then 0 else 1)])
set_option maxHeartbeats 1600000 in
theorem show_any (n : Int) (w : World) (ht : TabIs Tryd.prog w "internal/strconv.uint64pow10" .u64 pow10Tab) :
    Calls Tryd.prog 30 #[.int .i64 n] w fun e w' => e = lsR n ∧ Gr w w' := by
  have HT := Lib.hid (fun w' (g : Gr w w') => tab_bl ht g.bl)
  have HI := fun w => isLevel_any n w
  clear ht
  cases hm : isLev n with
  | false =>
    rw [hm] at HI
    have HR := Lib.hid (show lsR n = .returned (.tuple #[.string (bs []), .int .i64 1]) by unfold lsR; rw [hm]; rfl)
    clear hm
    go_enter Tryd.func30, Tryd.ntmps30
    go_wp2_with (refine (HI _).mono ?_; rintro e w2 ⟨rfl, rfl⟩)
    go_returns
    exact ⟨HR.out.symm, Gr.refl _⟩
  | true =>
    rw [hm] at HI
    obtain ⟨h0, h1⟩ := isLev_iff.1 hm
    have hR : lsR n = .returned (.tuple #[.string (bs (lvShow n)), .int .i64 0]) := by unfold lsR; rw [hm]; rfl
    by_cases n0 : n = 0
    · have HR := Lib.hid (show lsR n = .returned (.tuple #[.string (bs [111, 117, 116]), .int .i64 0]) by rw [hR]; unfold lvShow; rw [if_pos n0])
      have n0' : (n == 0) = true := by rw [n0]; rfl
      clear hm hR n0
      go_enter Tryd.func30, Tryd.ntmps30
      go_wp2_with (refine (HI _).mono ?_; rintro e w2 ⟨rfl, rfl⟩)
      go_returns
      exact ⟨HR.out.symm, Gr.refl _⟩
    have n0' : (n == 0) = false := beq_eq_false_iff_ne.2 n0
    by_cases n1 : n = 65535
    · have HR := Lib.hid (show lsR n = .returned (.tuple #[.string (bs [102, 117, 108, 108]), .int .i64 0]) by rw [hR]; unfold lvShow; rw [if_neg n0, if_pos n1])
      have n1' : (n == 65535) = true := by rw [n1]; rfl
      clear hm hR n0 n1
      go_enter Tryd.func30, Tryd.ntmps30
      go_wp2_with (refine (HI _).mono ?_; rintro e w2 ⟨rfl, rfl⟩)
      go_returns
      exact ⟨HR.out.symm, Gr.refl _⟩
    have n1' : (n == 65535) = false := beq_eq_false_iff_ne.2 n1
    have p0 : 0 ≤ rnd n 65535 100 := rnd_nonneg (by decide) h0 (by decide)
    have p1 : rnd n 65535 100 ≤ 100 := rnd_le (by decide) h1 (by decide)
    have HO := Lib.hid (fun w => ofPercent_any (rnd n 65535 100 * 100) w (by omega) (by omega))
    by_cases c : rnd (rnd n 65535 100 * 100) 10000 65535 = n
    · have HR := Lib.hid (show lsR n = .returned (.tuple #[.string (bs (decDigits (rnd n 65535 100).toNat ++ [37])), .int .i64 0]) by rw [hR]; unfold lvShow; rw [if_neg n0, if_neg n1, if_pos c])
      have HJ := Lib.hid (fun w' (g : Gr w w') => itoa_any (rnd n 65535 100) w' p0 (by omega) (HT.out w' g))
      have hl : (bs (decDigits (rnd n 65535 100).toNat)).size ≤ 10 := by rw [bs_size]; exact dd_len _ _ (by decide) (by omega)
      have c' : (rnd (rnd n 65535 100 * 100) 10000 65535 == n) = true := by simpa using c
      clear hm hR n0 n1 c
      go_enter Tryd.func30, Tryd.ntmps30
      go_wp2_with (first | (go_at_call 23; refine (HI _).mono ?_; rintro e w2 ⟨rfl, rfl⟩) | (go_at_call 45; refine (share_any n 65535 _ h0 (by omega) (by omega) (by omega)).mono ?_; rintro e w1 ⟨nh, nl, dh, dl, rfl, HH, hg⟩) | (go_at_call 46; refine (of_any nh nl dh dl n 65535 100 _ HH.1 HH.2 ⟨h0, h1, by omega, by omega⟩ (by omega) (by omega)).mono ?_; rintro e w2 ⟨rfl, hg2⟩) | (go_at_call 47; refine (HO.out _).mono ?_; rintro e w3 ⟨rfl, hg3⟩) | (go_at_call 15; refine (HJ.out _ ((hg.trans hg2).trans hg3)).mono ?_; rintro e w4 ⟨rfl, hg4⟩))
      go_returns
      refine ⟨?_, ((hg.trans hg2).trans hg3).trans hg4⟩
      rw [HR.out]
      show Ending.returned (.tuple #[.string (bs (decDigits (rnd n 65535 100).toNat) ++ bs [37]), .int .i64 0]) = _
      rw [bs_app]
    · have HR := Lib.hid (show lsR n = .returned (.tuple #[.string (bs (35 :: decDigits n.toNat)), .int .i64 0]) by rw [hR]; unfold lvShow; rw [if_neg n0, if_neg n1, if_neg c])
      have HJ := Lib.hid (fun w' (g : Gr w w') => itoa_any n w' h0 (by omega) (HT.out w' g))
      have hl : (bs (decDigits n.toNat)).size ≤ 10 := by rw [bs_size]; exact dd_len _ _ (by decide) (by omega)
      have c' : (rnd (rnd n 65535 100 * 100) 10000 65535 == n) = false := by simpa using c
      clear hm hR n0 n1 c
      go_enter Tryd.func30, Tryd.ntmps30
      go_wp2_with (first | (go_at_call 23; refine (HI _).mono ?_; rintro e w2 ⟨rfl, rfl⟩) | (go_at_call 45; refine (share_any n 65535 _ h0 (by omega) (by omega) (by omega)).mono ?_; rintro e w1 ⟨nh, nl, dh, dl, rfl, HH, hg⟩) | (go_at_call 46; refine (of_any nh nl dh dl n 65535 100 _ HH.1 HH.2 ⟨h0, h1, by omega, by omega⟩ (by omega) (by omega)).mono ?_; rintro e w2 ⟨rfl, hg2⟩) | (go_at_call 47; refine (HO.out _).mono ?_; rintro e w3 ⟨rfl, hg3⟩) | (go_at_call 15; refine (HJ.out _ ((hg.trans hg2).trans hg3)).mono ?_; rintro e w4 ⟨rfl, hg4⟩))
      go_returns
      refine ⟨?_, ((hg.trans hg2).trans hg3).trans hg4⟩
      rw [HR.out]
      show Ending.returned (.tuple #[.string (bs [35] ++ bs (decDigits n.toNat)), .int .i64 0]) = _
      rw [bs_app]
      rfl

/-! Read. -/
def lrR (s : ByteArray) : Ending := .returned (.tuple #[.int .i64 (lvRead s.data.toList), .int .i64 (if lvOk s.data.toList = true then 0 else 9)])
theorem str_is {s : ByteArray} {l : List UInt8} (h : s.data.toList ≠ l) : (s.toList == l) = false := by
  rw [Lib.toList_data]; simpa using h
theorem pre_of (l : List UInt8) (c : UInt8) : Lib.hasPrefix l [c] = (l.head? == some c) ∧ (l.head? = some c → Lib.trimPrefix l [c] = l.drop 1) := by
  unfold Lib.trimPrefix Lib.hasPrefix
  cases l with
  | nil => exact ⟨rfl, fun h => by cases h⟩
  | cons x t =>
    simp only [List.isPrefixOf, List.head?_cons, Bool.and_true]
    have : (c == x) = (some x == some c) := by rw [Bool.eq_iff_iff]; simp; exact eq_comm
    refine ⟨this, fun h => ?_⟩
    rw [this, h]; simp
theorem suf_of (l : List UInt8) (c : UInt8) : Lib.hasSuffix l [c] = (l.getLast? == some c) ∧ (l.getLast? = some c → Lib.trimSuffix l [c] = l.dropLast) := by
  unfold Lib.trimSuffix Lib.hasSuffix
  have h1 : [c].isSuffixOf l = (l.getLast? == some c) := by
    unfold List.isSuffixOf
    rw [List.getLast?_eq_head?_reverse]
    cases l.reverse with
    | nil => rfl
    | cons x t =>
      simp only [List.reverse_cons, List.reverse_nil, List.nil_append, List.isPrefixOf, List.head?_cons, Bool.and_true]
      rw [Bool.eq_iff_iff]; simp; exact eq_comm
  refine ⟨h1, fun h => ?_⟩
  rw [h1, h]
  simp [List.dropLast_eq_take]
theorem lvHash_eq (l : List UInt8) : lvHash l = ((l.head? == some 35) && (numOk 9 (l.drop 1) && decide (val (l.drop 1) ≤ 65535))) := by
  cases l with
  | nil => rfl
  | cons c t => rfl
theorem lvPer_eq (l : List UInt8) : lvPer l = ((l.getLast? == some 37) && (partsOk 9 2 l.dropLast && decide (pV 2 l.dropLast ≤ 10000))) := by
  unfold lvPer pV
  cases l.getLast? with
  | none => rfl
  | some c =>
    by_cases h : partsOk 9 2 l.dropLast = true
    · rw [if_pos h]; rfl
    · rw [Bool.eq_false_iff.2 h]; rfl
theorem pV2_bd (l : List UInt8) : 0 ≤ pV 2 l := by
  unfold pV
  by_cases h : partsOk 9 2 l = true
  · rw [if_pos h]; exact (read_show h).2.1
  · rw [if_neg h]; decide

theorem lv_not (l : List UInt8) (h1 : l ≠ [111, 117, 116]) (h2 : l ≠ [102, 117, 108, 108]) : lvOk l = (lvHash l || lvPer l) ∧ lvRead l = if lvHash l = true then val (l.drop 1) else if lvPer l = true then rnd (pV 2 l.dropLast) 10000 65535 else 0 := by
  constructor
  · unfold lvOk
    rw [show (l == [111, 117, 116]) = false by simpa using h1, show (l == [102, 117, 108, 108]) = false by simpa using h2]
    rfl
  · unfold lvRead
    rw [if_neg h1, if_neg h2]
    by_cases a : lvHash l = true
    · rw [if_pos a, if_pos a]
    · rw [if_neg a, if_neg a]
      by_cases b : lvPer l = true
      · rw [if_pos b, if_pos b]
        rw [lvPer_eq] at b
        obtain ⟨_, b⟩ := Bool.and_eq_true_iff.1 b
        unfold pV
        rw [if_pos (Bool.and_eq_true_iff.1 b).1]
      · rw [if_neg b, if_neg b]
theorem lr_of (s : ByteArray) (a : Int) (b : Bool) (h1 : lvRead s.data.toList = a) (h2 : lvOk s.data.toList = b) : lrR s = .returned (.tuple #[.int .i64 a, .int .i64 (if b = true then 0 else 9)]) := by unfold lrR; rw [h1, h2]
theorem lr_out : lrR ⟨#[111, 117, 116]⟩ = .returned (.tuple #[.int .i64 0, .int .i64 0]) := lr_of _ 0 true (by decide) (by decide)
theorem lr_full : lrR ⟨#[102, 117, 108, 108]⟩ = .returned (.tuple #[.int .i64 65535, .int .i64 0]) := lr_of _ 65535 true (by decide) (by decide)
set_option maxRecDepth 100000 in
set_option maxHeartbeats 800000 in
theorem read_any (s : ByteArray) (w : World) (hs : s.size ≤ 4611686018427387904) :
    Calls Tryd.prog 37 #[.string s] w fun e w' => e = lrR s ∧ Gr w w' := by
  have g0 := Gr.refl w
  by_cases h1 : s.data.toList = [111, 117, 116]
  · have e : s = ⟨#[111, 117, 116]⟩ := Go.WideShapes.bytes_inj h1
    subst e
    have HE := Lib.hid lr_out
    clear h1
    go_enter Tryd.func37, Tryd.ntmps37
    go_wp2_with fail
    go_returns
    exact ⟨HE.out.symm, g0⟩
  by_cases h2 : s.data.toList = [102, 117, 108, 108]
  · have e : s = ⟨#[102, 117, 108, 108]⟩ := Go.WideShapes.bytes_inj h2
    subst e
    have HE := Lib.hid lr_full
    clear h1 h2
    go_enter Tryd.func37, Tryd.ntmps37
    go_wp2_with fail
    go_returns
    exact ⟨HE.out.symm, g0⟩
  have t1 := str_is h1
  have t2 := str_is h2
  obtain ⟨n1, n2⟩ := lv_not _ h1 h2
  have hll := lst_len s
  have HP := Lib.hid (fun w' (g : Gr w w') => show Calls Tryd.prog 53 #[.string s, .string ⟨#[35]⟩] w' fun e w'' => e = .returned (.tuple #[.string (bs (Lib.trimPrefix s.data.toList [35])), .bool (Lib.hasPrefix s.data.toList [35])]) ∧ Gr w w'' from
    (Tryd.strings_CutPrefix s ⟨#[35]⟩ w').mono fun e w'' ⟨h1, h2⟩ => ⟨h1, h2 ▸ g⟩)
  have HQ := Lib.hid (fun w' (g : Gr w w') => show Calls Tryd.prog 55 #[.string s, .string ⟨#[37]⟩] w' fun e w'' => e = .returned (.tuple #[.string (bs (Lib.trimSuffix s.data.toList [37])), .bool (Lib.hasSuffix s.data.toList [37])]) ∧ Gr w w'' from
    (Tryd.strings_CutSuffix s ⟨#[37]⟩ w' (by omega)).mono fun e w'' ⟨h1, h2⟩ => ⟨h1, h2 ▸ g⟩)
  obtain ⟨a1, a2⟩ := pre_of s.data.toList 35
  obtain ⟨b1, b2⟩ := suf_of s.data.toList 37
  have HN := Lib.hid (fun w' (g : Gr w w') => show Calls Tryd.prog 54 #[.string (bs (s.data.toList.drop 1))] w' fun e w'' => e = .returned (.tuple #[.int .i64 (numV (s.data.toList.drop 1)), .bool (numOk 9 (s.data.toList.drop 1))]) ∧ Gr w w'' from
    (number_any (bs (s.data.toList.drop 1)) w' (by rw [bs_size]; simp; omega)).mono fun e w'' ⟨h1, h2⟩ => ⟨by rw [h1]; unfold numR; rw [bs_list], h2 ▸ g⟩)
  have HR := Lib.hid (fun w' (g : Gr w w') => show Calls Tryd.prog 56 #[.string (bs s.data.toList.dropLast), .int .i64 2] w' fun e w'' => e = .returned (.tuple #[.int .i64 (pV 2 s.data.toList.dropLast), .bool (partsOk 9 2 s.data.toList.dropLast)]) ∧ Gr w w'' from
    (readParts_any (bs s.data.toList.dropLast) 2 w' (by rw [bs_size]; simp; omega) (by decide)).mono fun e w'' ⟨h1, h2⟩ => ⟨by rw [h1, partsR_eq, bs_list], g.trans h2⟩)
  have HI := Lib.hid (fun w' (g : Gr w w') => show Calls Tryd.prog 23 #[.int .i64 (numV (s.data.toList.drop 1))] w' fun e w'' => e = .returned (.bool (isLev (numV (s.data.toList.drop 1)))) ∧ Gr w w'' from
    (isLevel_any _ w').mono fun e w'' ⟨h1, h2⟩ => ⟨h1, h2 ▸ g⟩)
  have u0 := pV2_bd s.data.toList.dropLast
  have HO := Lib.hid (fun (hu : pV 2 s.data.toList.dropLast ≤ 10000) w' (g : Gr w w') => show Calls Tryd.prog 47 #[.int .i64 (pV 2 s.data.toList.dropLast)] w' fun e w'' => e = .returned (.int .i64 (rnd (pV 2 s.data.toList.dropLast) 10000 65535)) ∧ Gr w w'' from
    (ofPercent_any _ w' u0 hu).mono fun e w'' ⟨h1, h2⟩ => ⟨h1, g.trans h2⟩)
  rw [lvHash_eq, lvPer_eq] at n1 n2
  have hE : lrR s = .returned (.tuple #[.int .i64 (lvRead s.data.toList), .int .i64 (if lvOk s.data.toList = true then 0 else 9)]) := rfl
  rw [n1, n2] at hE
  have hnv : numOk 9 (s.data.toList.drop 1) = true → numV (s.data.toList.drop 1) = val (s.data.toList.drop 1) ∧ isLev (numV (s.data.toList.drop 1)) = decide (val (s.data.toList.drop 1) ≤ 65535) := fun h => by
    rw [numV_ok h]
    refine ⟨rfl, ?_⟩
    have := (numOk_bd h).1
    unfold isLev
    rw [decide_eq_true this, Bool.true_and]
  have pre : (s.data.toList.head? ≠ some 35) ∨ (s.data.toList.head? = some 35 ∧ numOk 9 (s.data.toList.drop 1) = false) ∨ (s.data.toList.head? = some 35 ∧ numOk 9 (s.data.toList.drop 1) = true ∧ ¬ val (s.data.toList.drop 1) ≤ 65535) ∨ (s.data.toList.head? = some 35 ∧ numOk 9 (s.data.toList.drop 1) = true ∧ val (s.data.toList.drop 1) ≤ 65535) := by
    by_cases x : s.data.toList.head? = some 35
    · cases y : numOk 9 (s.data.toList.drop 1) with
      | false => exact Or.inr (Or.inl ⟨x, rfl⟩)
      | true =>
        by_cases z : val (s.data.toList.drop 1) ≤ 65535
        · exact Or.inr (Or.inr (Or.inr ⟨x, rfl, z⟩))
        · exact Or.inr (Or.inr (Or.inl ⟨x, rfl, z⟩))
    · exact Or.inl x
  have suf : (s.data.toList.getLast? ≠ some 37) ∨ (s.data.toList.getLast? = some 37 ∧ partsOk 9 2 s.data.toList.dropLast = false) ∨ (s.data.toList.getLast? = some 37 ∧ partsOk 9 2 s.data.toList.dropLast = true ∧ ¬ pV 2 s.data.toList.dropLast ≤ 10000) ∨ (s.data.toList.getLast? = some 37 ∧ partsOk 9 2 s.data.toList.dropLast = true ∧ pV 2 s.data.toList.dropLast ≤ 10000) := by
    by_cases x : s.data.toList.getLast? = some 37
    · cases y : partsOk 9 2 s.data.toList.dropLast with
      | false => exact Or.inr (Or.inl ⟨x, rfl⟩)
      | true =>
        by_cases z : pV 2 s.data.toList.dropLast ≤ 10000
        · exact Or.inr (Or.inr (Or.inr ⟨x, rfl, z⟩))
        · exact Or.inr (Or.inr (Or.inl ⟨x, rfl, z⟩))
    · exact Or.inl x
  clear n1 n2 h1 h2 hll hs
  rcases pre with p1 | ⟨p1, p2⟩ | ⟨p1, p2, p3⟩ | ⟨p1, p2, p3⟩
  · have p2 : (s.data.toList.head? == some 35) = false := by simpa using p1
    rw [a1, p2] at HP
    rw [p2] at hE
    generalize bs (Lib.trimPrefix s.data.toList [35]) = T1 at HP
    clear HN HI hnv a1 a2 p1 p2
    rcases suf with p1 | ⟨p1, p2⟩ | ⟨p1, p2, p3⟩ | ⟨p1, p2, p3⟩
    · have p2 : (s.data.toList.getLast? == some 37) = false := by simpa using p1
      rw [b1, p2] at HQ
      rw [p2] at hE
      generalize bs (Lib.trimSuffix s.data.toList [37]) = T2 at HQ
      clear HR HO b1 b2 p1 p2
      have HE := Lib.hid (show lrR s = .returned (.tuple #[.int .i64 0, .int .i64 9]) by rw [hE]; rfl)
      clear hE
      go_enter Tryd.func37, Tryd.ntmps37
      go_wp2_with (first | (go_at_call 53; refine (HP.out _ (by assumption)).mono ?_; rintro e w1 ⟨rfl, g1⟩) | (go_at_call 55; refine (HQ.out _ (by assumption)).mono ?_; rintro e w1 ⟨rfl, g4⟩))
      go_returns
      exact ⟨HE.out.symm, by assumption⟩
    · rw [b1, b2 p1, p1] at HQ
      rw [p2] at HR
      rw [p1, p2] at hE
      generalize bs s.data.toList.dropLast = T2 at HQ HR
      generalize pV 2 s.data.toList.dropLast = u at *
      clear HO b1 b2 p1 p2
      have HE := Lib.hid (show lrR s = .returned (.tuple #[.int .i64 0, .int .i64 9]) by rw [hE]; rfl)
      clear hE
      go_enter Tryd.func37, Tryd.ntmps37
      go_wp2_with (first | (go_at_call 53; refine (HP.out _ (by assumption)).mono ?_; rintro e w1 ⟨rfl, g1⟩) | (go_at_call 55; refine (HQ.out _ (by assumption)).mono ?_; rintro e w1 ⟨rfl, g4⟩) | (go_at_call 56; refine (HR.out _ (by assumption)).mono ?_; rintro e w1 ⟨rfl, g5⟩))
      go_returns
      exact ⟨HE.out.symm, by assumption⟩
    · rw [b1, b2 p1, p1] at HQ
      rw [p2] at HR
      rw [p1, p2, decide_eq_false p3] at hE
      generalize bs s.data.toList.dropLast = T2 at HQ HR
      generalize pV 2 s.data.toList.dropLast = u at *
      have p3 : 10000 < u := by omega
      clear HO b1 b2 p1 p2
      have HE := Lib.hid (show lrR s = .returned (.tuple #[.int .i64 0, .int .i64 9]) by rw [hE]; rfl)
      clear hE
      go_enter Tryd.func37, Tryd.ntmps37
      go_wp2_with (first | (go_at_call 53; refine (HP.out _ (by assumption)).mono ?_; rintro e w1 ⟨rfl, g1⟩) | (go_at_call 55; refine (HQ.out _ (by assumption)).mono ?_; rintro e w1 ⟨rfl, g4⟩) | (go_at_call 56; refine (HR.out _ (by assumption)).mono ?_; rintro e w1 ⟨rfl, g5⟩))
      go_returns
      exact ⟨HE.out.symm, by assumption⟩
    · rw [b1, b2 p1, p1] at HQ
      rw [p2] at HR
      rw [p1, p2, decide_eq_true p3] at hE
      replace HO := Lib.hid (HO.out p3)
      generalize bs s.data.toList.dropLast = T2 at HQ HR
      generalize pV 2 s.data.toList.dropLast = u at *
      clear b1 b2 p1 p2
      have HE := Lib.hid (show lrR s = .returned (.tuple #[.int .i64 (rnd u 10000 65535), .int .i64 0]) by rw [hE]; rfl)
      clear hE
      go_enter Tryd.func37, Tryd.ntmps37
      go_wp2_with (first | (go_at_call 53; refine (HP.out _ (by assumption)).mono ?_; rintro e w1 ⟨rfl, g1⟩) | (go_at_call 55; refine (HQ.out _ (by assumption)).mono ?_; rintro e w1 ⟨rfl, g4⟩) | (go_at_call 56; refine (HR.out _ (by assumption)).mono ?_; rintro e w1 ⟨rfl, g5⟩) | (go_at_call 47; refine (HO.out _ (by assumption)).mono ?_; rintro e w1 ⟨rfl, g6⟩))
      go_returns
      exact ⟨HE.out.symm, by assumption⟩
  · rw [a1, a2 p1, p1] at HP
    rw [numV_no p2, p2] at HN
    rw [p1, p2] at hE
    generalize bs (List.drop 1 s.data.toList) = T1 at HP HN
    clear HI hnv a1 a2 p1 p2
    rcases suf with p1 | ⟨p1, p2⟩ | ⟨p1, p2, p3⟩ | ⟨p1, p2, p3⟩
    · have p2 : (s.data.toList.getLast? == some 37) = false := by simpa using p1
      rw [b1, p2] at HQ
      rw [p2] at hE
      generalize bs (Lib.trimSuffix s.data.toList [37]) = T2 at HQ
      clear HR HO b1 b2 p1 p2
      have HE := Lib.hid (show lrR s = .returned (.tuple #[.int .i64 0, .int .i64 9]) by rw [hE]; rfl)
      clear hE
      go_enter Tryd.func37, Tryd.ntmps37
      go_wp2_with (first | (go_at_call 53; refine (HP.out _ (by assumption)).mono ?_; rintro e w1 ⟨rfl, g1⟩) | (go_at_call 54; refine (HN.out _ (by assumption)).mono ?_; rintro e w1 ⟨rfl, g2⟩) | (go_at_call 55; refine (HQ.out _ (by assumption)).mono ?_; rintro e w1 ⟨rfl, g4⟩))
      go_returns
      exact ⟨HE.out.symm, by assumption⟩
    · rw [b1, b2 p1, p1] at HQ
      rw [p2] at HR
      rw [p1, p2] at hE
      generalize bs s.data.toList.dropLast = T2 at HQ HR
      generalize pV 2 s.data.toList.dropLast = u at *
      clear HO b1 b2 p1 p2
      have HE := Lib.hid (show lrR s = .returned (.tuple #[.int .i64 0, .int .i64 9]) by rw [hE]; rfl)
      clear hE
      go_enter Tryd.func37, Tryd.ntmps37
      go_wp2_with (first | (go_at_call 53; refine (HP.out _ (by assumption)).mono ?_; rintro e w1 ⟨rfl, g1⟩) | (go_at_call 54; refine (HN.out _ (by assumption)).mono ?_; rintro e w1 ⟨rfl, g2⟩) | (go_at_call 55; refine (HQ.out _ (by assumption)).mono ?_; rintro e w1 ⟨rfl, g4⟩) | (go_at_call 56; refine (HR.out _ (by assumption)).mono ?_; rintro e w1 ⟨rfl, g5⟩))
      go_returns
      exact ⟨HE.out.symm, by assumption⟩
    · rw [b1, b2 p1, p1] at HQ
      rw [p2] at HR
      rw [p1, p2, decide_eq_false p3] at hE
      generalize bs s.data.toList.dropLast = T2 at HQ HR
      generalize pV 2 s.data.toList.dropLast = u at *
      have p3 : 10000 < u := by omega
      clear HO b1 b2 p1 p2
      have HE := Lib.hid (show lrR s = .returned (.tuple #[.int .i64 0, .int .i64 9]) by rw [hE]; rfl)
      clear hE
      go_enter Tryd.func37, Tryd.ntmps37
      go_wp2_with (first | (go_at_call 53; refine (HP.out _ (by assumption)).mono ?_; rintro e w1 ⟨rfl, g1⟩) | (go_at_call 54; refine (HN.out _ (by assumption)).mono ?_; rintro e w1 ⟨rfl, g2⟩) | (go_at_call 55; refine (HQ.out _ (by assumption)).mono ?_; rintro e w1 ⟨rfl, g4⟩) | (go_at_call 56; refine (HR.out _ (by assumption)).mono ?_; rintro e w1 ⟨rfl, g5⟩))
      go_returns
      exact ⟨HE.out.symm, by assumption⟩
    · rw [b1, b2 p1, p1] at HQ
      rw [p2] at HR
      rw [p1, p2, decide_eq_true p3] at hE
      replace HO := Lib.hid (HO.out p3)
      generalize bs s.data.toList.dropLast = T2 at HQ HR
      generalize pV 2 s.data.toList.dropLast = u at *
      clear b1 b2 p1 p2
      have HE := Lib.hid (show lrR s = .returned (.tuple #[.int .i64 (rnd u 10000 65535), .int .i64 0]) by rw [hE]; rfl)
      clear hE
      go_enter Tryd.func37, Tryd.ntmps37
      go_wp2_with (first | (go_at_call 53; refine (HP.out _ (by assumption)).mono ?_; rintro e w1 ⟨rfl, g1⟩) | (go_at_call 54; refine (HN.out _ (by assumption)).mono ?_; rintro e w1 ⟨rfl, g2⟩) | (go_at_call 55; refine (HQ.out _ (by assumption)).mono ?_; rintro e w1 ⟨rfl, g4⟩) | (go_at_call 56; refine (HR.out _ (by assumption)).mono ?_; rintro e w1 ⟨rfl, g5⟩) | (go_at_call 47; refine (HO.out _ (by assumption)).mono ?_; rintro e w1 ⟨rfl, g6⟩))
      go_returns
      exact ⟨HE.out.symm, by assumption⟩
  · rw [a1, a2 p1, p1] at HP
    obtain ⟨q1, q2⟩ := hnv p2
    rw [q2, q1, decide_eq_false p3] at HI
    rw [q1, p2] at HN
    rw [p1, p2, decide_eq_false p3] at hE
    generalize bs (List.drop 1 s.data.toList) = T1 at HP HN
    generalize val (List.drop 1 s.data.toList) = v at HN HI
    clear hnv a1 a2 p1 p2 p3 q1 q2
    rcases suf with p1 | ⟨p1, p2⟩ | ⟨p1, p2, p3⟩ | ⟨p1, p2, p3⟩
    · have p2 : (s.data.toList.getLast? == some 37) = false := by simpa using p1
      rw [b1, p2] at HQ
      rw [p2] at hE
      generalize bs (Lib.trimSuffix s.data.toList [37]) = T2 at HQ
      clear HR HO b1 b2 p1 p2
      have HE := Lib.hid (show lrR s = .returned (.tuple #[.int .i64 0, .int .i64 9]) by rw [hE]; rfl)
      clear hE
      go_enter Tryd.func37, Tryd.ntmps37
      go_wp2_with (first | (go_at_call 53; refine (HP.out _ (by assumption)).mono ?_; rintro e w1 ⟨rfl, g1⟩) | (go_at_call 54; refine (HN.out _ (by assumption)).mono ?_; rintro e w1 ⟨rfl, g2⟩) | (go_at_call 23; refine (HI.out _ (by assumption)).mono ?_; rintro e w1 ⟨rfl, g3⟩) | (go_at_call 55; refine (HQ.out _ (by assumption)).mono ?_; rintro e w1 ⟨rfl, g4⟩))
      go_returns
      exact ⟨HE.out.symm, by assumption⟩
    · rw [b1, b2 p1, p1] at HQ
      rw [p2] at HR
      rw [p1, p2] at hE
      generalize bs s.data.toList.dropLast = T2 at HQ HR
      generalize pV 2 s.data.toList.dropLast = u at *
      clear HO b1 b2 p1 p2
      have HE := Lib.hid (show lrR s = .returned (.tuple #[.int .i64 0, .int .i64 9]) by rw [hE]; rfl)
      clear hE
      go_enter Tryd.func37, Tryd.ntmps37
      go_wp2_with (first | (go_at_call 53; refine (HP.out _ (by assumption)).mono ?_; rintro e w1 ⟨rfl, g1⟩) | (go_at_call 54; refine (HN.out _ (by assumption)).mono ?_; rintro e w1 ⟨rfl, g2⟩) | (go_at_call 23; refine (HI.out _ (by assumption)).mono ?_; rintro e w1 ⟨rfl, g3⟩) | (go_at_call 55; refine (HQ.out _ (by assumption)).mono ?_; rintro e w1 ⟨rfl, g4⟩) | (go_at_call 56; refine (HR.out _ (by assumption)).mono ?_; rintro e w1 ⟨rfl, g5⟩))
      go_returns
      exact ⟨HE.out.symm, by assumption⟩
    · rw [b1, b2 p1, p1] at HQ
      rw [p2] at HR
      rw [p1, p2, decide_eq_false p3] at hE
      generalize bs s.data.toList.dropLast = T2 at HQ HR
      generalize pV 2 s.data.toList.dropLast = u at *
      have p3 : 10000 < u := by omega
      clear HO b1 b2 p1 p2
      have HE := Lib.hid (show lrR s = .returned (.tuple #[.int .i64 0, .int .i64 9]) by rw [hE]; rfl)
      clear hE
      go_enter Tryd.func37, Tryd.ntmps37
      go_wp2_with (first | (go_at_call 53; refine (HP.out _ (by assumption)).mono ?_; rintro e w1 ⟨rfl, g1⟩) | (go_at_call 54; refine (HN.out _ (by assumption)).mono ?_; rintro e w1 ⟨rfl, g2⟩) | (go_at_call 23; refine (HI.out _ (by assumption)).mono ?_; rintro e w1 ⟨rfl, g3⟩) | (go_at_call 55; refine (HQ.out _ (by assumption)).mono ?_; rintro e w1 ⟨rfl, g4⟩) | (go_at_call 56; refine (HR.out _ (by assumption)).mono ?_; rintro e w1 ⟨rfl, g5⟩))
      go_returns
      exact ⟨HE.out.symm, by assumption⟩
    · rw [b1, b2 p1, p1] at HQ
      rw [p2] at HR
      rw [p1, p2, decide_eq_true p3] at hE
      replace HO := Lib.hid (HO.out p3)
      generalize bs s.data.toList.dropLast = T2 at HQ HR
      generalize pV 2 s.data.toList.dropLast = u at *
      clear b1 b2 p1 p2
      have HE := Lib.hid (show lrR s = .returned (.tuple #[.int .i64 (rnd u 10000 65535), .int .i64 0]) by rw [hE]; rfl)
      clear hE
      go_enter Tryd.func37, Tryd.ntmps37
      go_wp2_with (first | (go_at_call 53; refine (HP.out _ (by assumption)).mono ?_; rintro e w1 ⟨rfl, g1⟩) | (go_at_call 54; refine (HN.out _ (by assumption)).mono ?_; rintro e w1 ⟨rfl, g2⟩) | (go_at_call 23; refine (HI.out _ (by assumption)).mono ?_; rintro e w1 ⟨rfl, g3⟩) | (go_at_call 55; refine (HQ.out _ (by assumption)).mono ?_; rintro e w1 ⟨rfl, g4⟩) | (go_at_call 56; refine (HR.out _ (by assumption)).mono ?_; rintro e w1 ⟨rfl, g5⟩) | (go_at_call 47; refine (HO.out _ (by assumption)).mono ?_; rintro e w1 ⟨rfl, g6⟩))
      go_returns
      exact ⟨HE.out.symm, by assumption⟩
  · rw [a1, a2 p1, p1] at HP
    obtain ⟨q1, q2⟩ := hnv p2
    rw [q2, q1] at HI
    rw [q1, p2] at HN
    rw [p1, p2] at hE
    rw [decide_eq_true p3] at HI hE
    have HE := Lib.hid (show lrR s = .returned (.tuple #[.int .i64 (val (s.data.toList.drop 1)), .int .i64 0]) by rw [hE]; rfl)
    clear hE p1 p2 p3 a1 a2 b1 b2 suf hnv q1 q2 HQ HR HO u0
    generalize bs (List.drop 1 s.data.toList) = T1 at *
    generalize val (List.drop 1 s.data.toList) = v at *
    go_enter Tryd.func37, Tryd.ntmps37
    go_wp2_with (first | (go_at_call 53; refine (HP.out _ (by assumption)).mono ?_; rintro e w1 ⟨rfl, g1⟩) | (go_at_call 54; refine (HN.out _ (by assumption)).mono ?_; rintro e w1 ⟨rfl, g2⟩) | (go_at_call 23; refine (HI.out _ (by assumption)).mono ?_; rintro e w1 ⟨rfl, g3⟩))
    go_returns
    exact ⟨HE.out.symm, by assumption⟩
end Go.Proofs.YtkllhockcnokeaaDoor
