/- Times of package level: ReadTime and ShowTime, for all texts and numbers. -/
import Derived.Test.YtfeeolfekfkdiaaDoorDecP
import Derived.Test.YtfeeolfekfkdiaaDoorTimD
namespace Go.Proofs.YtfeeolfekfkdiaaDoor
open Go.RowKit Go.Lib

def pV (p : Nat) (l : List UInt8) : Int := if partsOk 9 p l = true then partsV p l else 0
theorem pV_bd (l : List UInt8) : 0 ≤ pV 3 l ∧ pV 3 l ≤ 1000000000000 := by
  unfold pV
  by_cases h : partsOk 9 3 l = true
  · rw [if_pos h]
    obtain ⟨_, h0, _, h1⟩ := read_show h
    unfold partsOk at h
    have hb := (numOk_bd (Bool.and_eq_true_iff.1 h).1).2
    have hb : val (cut1 46 l).1 < 1000000000 := by simpa using hb
    have h1 : partsV 3 l < (val (cut1 46 l).1 + 1) * 1000 := by simpa using h1
    omega
  · rw [if_neg h]; decide
theorem partsR_eq (p : Nat) (s : ByteArray) : partsR p s = .returned (.tuple #[.int .i64 (pV p s.data.toList), .bool (partsOk 9 p s.data.toList)]) := rfl

def secW (l : List UInt8) : Int := match l with
  | [] => 0
  | c :: t => if 48 ≤ (c.toNat : Int) ∧ (c.toNat : Int) ≤ 53 then ((c.toNat : Int) - 48) * 10000 + pV 3 t else 0
theorem secW_bd (l : List UInt8) : 0 ≤ secW l ∧ secW l ≤ 1000000050000 := by
  cases l with
  | nil => exact ⟨by decide, by decide⟩
  | cons c t =>
    unfold secW
    have := pV_bd t
    by_cases h : 48 ≤ (c.toNat : Int) ∧ (c.toNat : Int) ≤ 53
    · simp only [if_pos h]; omega
    · simp only [if_neg h]; omega
theorem secW_ok {l : List UInt8} (h : secOk l = true) : secW l = secV l := by
  cases l with
  | nil => rfl
  | cons c t =>
    unfold secOk at h
    simp only [Bool.and_eq_true, decide_eq_true_eq] at h
    unfold secW secV
    simp only [if_pos h.1]
    unfold pV
    rw [if_pos h.2.1]
def secR (s : ByteArray) : Ending := .returned (.tuple #[.int .i64 (secW s.data.toList), .bool (secOk s.data.toList)])
theorem tail_of (s : ByteArray) (h : 0 < s.size) : s.data.toList = s[0] :: (s.extract 1 s.size).data.toList := by
  rw [Lib.extract_to_end]
  have := lst_head s h
  cases hl : s.data.toList with
  | nil => rw [hl] at this; cases this
  | cons c t =>
    rw [hl] at this
    injection this with e
    rw [e]; rfl
set_option maxHeartbeats 800000 in
theorem parseSeconds_any (s : ByteArray) (w : World) (hs : s.size ≤ 4611686018427387904) :
    Calls Tryd.prog 83 #[.string s] w fun e w' => e = secR s ∧ Gr w w' := by
  by_cases h0 : s.size = 0
  · have e := str_nil h0
    subst e
    go_enter Tryd.func83, Tryd.ntmps83
    go_wp2_with fail
    go_returns
    exact ⟨rfl, Gr.refl _⟩
  obtain ⟨hE, hE2⟩ := str_ne h0
  have hpos : 0 < s.size := by omega
  have c0 : (1 : Int) ≤ (s.size : Int) := by omega
  have htl := tail_of s hpos
  have hsz : (s.extract 1 s.size).size ≤ s.size := by
    rw [← lst_len, ← lst_len, htl]; simp
  by_cases hc : (48 : Int) ≤ (s[0].toNat : Int) ∧ (s[0].toNat : Int) ≤ (53 : Int)
  · have HP := fun w => readParts_any (s.extract 1 s.size) 3 w (by omega) (by decide)
    have hb := pV_bd (s.extract 1 s.size).data.toList
    have hv : secW s.data.toList = ((s[0].toNat : Int) - 48) * 10000 + pV 3 (s.extract 1 s.size).data.toList := by rw [htl]; unfold secW; simp only [if_pos hc]
    have ho : secOk s.data.toList = (partsOk 9 3 (s.extract 1 s.size).data.toList && decide (pV 3 (s.extract 1 s.size).data.toList < 10000)) := by
      rw [htl]
      unfold secOk
      simp only
      rw [show decide ((48 : Int) ≤ (s[0].toNat : Int)) = true from decide_eq_true hc.1, show decide ((s[0].toNat : Int) ≤ (53 : Int)) = true from decide_eq_true hc.2]
      unfold pV
      by_cases hp : partsOk 9 3 (s.extract 1 s.size).data.toList = true
      · rw [if_pos hp]; simp
      · rw [Bool.eq_false_iff.2 hp]; simp
    have HR := Lib.hid (show secR s = .returned (.tuple #[.int .i64 (((s[0].toNat : Int) - 48) * 10000 + pV 3 (s.extract 1 s.size).data.toList), .bool (partsOk 9 3 (s.extract 1 s.size).data.toList && decide (pV 3 (s.extract 1 s.size).data.toList < 10000))]) by unfold secR; rw [hv, ho])
    obtain ⟨b0, b1⟩ := hb
    obtain ⟨c1, c2⟩ := hc
    have HP : ∀ w, Calls Tryd.prog 47 #[.string (s.extract 1 s.size), .int .i64 3] w fun e w' => e = .returned (.tuple #[.int .i64 (pV 3 (s.extract 1 s.size).data.toList), .bool (partsOk 9 3 (s.extract 1 s.size).data.toList)]) ∧ Gr w w' := HP
    clear hv ho htl hsz h0
    generalize pV 3 (s.extract 1 s.size).data.toList = v at *
    generalize partsOk 9 3 (s.extract 1 s.size).data.toList = o at *
    cases o with
    | false =>
      go_enter Tryd.func83, Tryd.ntmps83
      go_wp2_with (refine (HP _).mono ?_; rintro e w1 ⟨rfl, g⟩)
      go_returns
      exact ⟨HR.out.symm, g⟩
    | true =>
      go_enter Tryd.func83, Tryd.ntmps83
      go_wp2_with (refine (HP _).mono ?_; rintro e w1 ⟨rfl, g⟩)
      go_returns
      exact ⟨HR.out.symm, g⟩
  · have HR := Lib.hid (show secR s = .returned (.tuple #[.int .i64 0, .bool false]) by
      unfold secR
      rw [htl]
      unfold secW secOk
      simp only [if_neg hc]
      have : (decide ((48 : Int) ≤ (s[0].toNat : Int)) && decide ((s[0].toNat : Int) ≤ (53 : Int))) = false := by
        rw [Bool.eq_false_iff]; intro hh; exact hc (by simpa using hh)
      rw [this]; rfl)
    by_cases hc1 : (s[0].toNat : Int) < (48 : Int)
    · clear htl hsz h0 hc
      go_enter Tryd.func83, Tryd.ntmps83
      go_wp2_with fail
      go_returns
      exact ⟨HR.out.symm, Gr.refl _⟩
    · have hc2 : (53 : Int) < (s[0].toNat : Int) := by omega
      have hc1 : (48 : Int) ≤ (s[0].toNat : Int) := by omega
      clear htl hsz h0 hc
      go_enter Tryd.func83, Tryd.ntmps83
      go_wp2_with fail
      go_returns
      exact ⟨HR.out.symm, Gr.refl _⟩

/-! parseTime, ReadTime. -/
def tW (l : List UInt8) : Int :=
  if (cut1 58 l).2.2 = true then (if numOk 9 (cut1 58 l).1 = true ∧ val (cut1 58 l).1 ≠ 0 ∧ (cut1 58 l).1.length ≤ 4 then val (cut1 58 l).1 * 60000 + secW (cut1 58 l).2.1 else 0)
  else pV 3 l
theorem tW_ok {l : List UInt8} (h : tOk l = true) : tW l = tV l := by
  unfold tOk at h
  unfold tW tV
  by_cases hc : (cut1 58 l).2.2 = true
  · rw [if_pos hc] at h ⊢
    rw [if_pos hc]
    simp only [Bool.and_eq_true, decide_eq_true_eq] at h
    rw [if_pos ⟨h.1.1.1, h.1.1.2, h.1.2⟩, secW_ok h.2]
  · rw [if_neg hc] at h ⊢
    rw [if_neg hc]
    unfold pV
    rw [if_pos (Bool.and_eq_true_iff.1 h).1]
theorem tW_bd (l : List UInt8) : 0 ≤ tW l ∧ tW l ≤ 2000000000000 := by
  unfold tW
  by_cases hc : (cut1 58 l).2.2 = true
  · rw [if_pos hc]
    by_cases h : numOk 9 (cut1 58 l).1 = true ∧ val (cut1 58 l).1 ≠ 0 ∧ (cut1 58 l).1.length ≤ 4
    · rw [if_pos h]
      have hs := secW_bd (cut1 58 l).2.1
      obtain ⟨h1, h2, h3⟩ := h
      have hd := (numOk_iff.1 h1).2.2.1
      obtain ⟨b0, b1⟩ := val_bd hd
      have b2 : val (cut1 58 l).1 < 10 ^ 4 := Int.lt_of_lt_of_le b1 (pow10_mono h3)
      have b2 : val (cut1 58 l).1 < 10000 := by simpa using b2
      omega
    · rw [if_neg h]; omega
  · rw [if_neg hc]
    have := pV_bd l
    omega
def timR (s : ByteArray) : Ending := .returned (.tuple #[.int .i64 (tW s.data.toList), .bool (tOk s.data.toList)])
set_option maxHeartbeats 1600000 in
theorem parseTime_any (s : ByteArray) (w : World) (hs : s.size ≤ 4611686018427387904) :
    Calls Tryd.prog 54 #[.string s] w fun e w' => e = timR s ∧ Gr w w' := by
  have HC := fun w => cut_any s 58 w hs
  unfold cutR at HC
  have hsp := cut1_spec 58 s.data.toList
  have hl := lst_len s
  have hlen : (cut1 58 s.data.toList).1.length ≤ s.size ∧ (cut1 58 s.data.toList).2.1.length ≤ s.size := by
    rcases hsp with ⟨hc, _⟩ | ⟨a, b, hab, hno, hc⟩
    · rw [hc]; exact ⟨by rw [← hl]; exact Nat.le_refl _, Nat.zero_le _⟩
    · rw [hc]
      have := congrArg List.length hab
      rw [hl] at this
      simp at this
      exact ⟨show a.length ≤ _ by omega, show b.length ≤ _ by omega⟩
  have hv : tW s.data.toList = _ := rfl
  have ho : tOk s.data.toList = _ := rfl
  conv at hv => rhs; unfold tW
  conv at ho => rhs; unfold tOk
  generalize (cut1 58 s.data.toList).1 = A at *
  generalize (cut1 58 s.data.toList).2.1 = B at *
  generalize (cut1 58 s.data.toList).2.2 = D at *
  cases D with
  | false =>
    rw [if_neg (by decide)] at hv ho
    obtain ⟨b0, b1⟩ := pV_bd s.data.toList
    have ho : tOk s.data.toList = (partsOk 9 3 s.data.toList && decide (pV 3 s.data.toList < 60000)) := by
      rw [ho]
      unfold pV
      by_cases hp : partsOk 9 3 s.data.toList = true
      · rw [if_pos hp]
      · rw [Bool.eq_false_iff.2 hp]; rfl
    have HR := Lib.hid (show timR s = .returned (.tuple #[.int .i64 (pV 3 s.data.toList), .bool (partsOk 9 3 s.data.toList && decide (pV 3 s.data.toList < 60000))]) by unfold timR; rw [hv, ho])
    have HP : ∀ w, Calls Tryd.prog 47 #[.string s, .int .i64 3] w fun e w' => e = .returned (.tuple #[.int .i64 (pV 3 s.data.toList), .bool (partsOk 9 3 s.data.toList)]) ∧ Gr w w' := fun w => readParts_any s 3 w hs (by decide)
    clear hv ho hsp hl hlen
    generalize pV 3 s.data.toList = v at *
    generalize partsOk 9 3 s.data.toList = o at *
    cases o with
    | false =>
      go_enter Tryd.func54, Tryd.ntmps54
      go_wp2_with (first | (refine (HC _).mono ?_; rintro e w1 ⟨rfl, g1⟩) | (refine (HP _).mono ?_; rintro e w2 ⟨rfl, g2⟩))
      go_returns
      exact ⟨HR.out.symm, g1.trans g2⟩
    | true =>
      go_enter Tryd.func54, Tryd.ntmps54
      go_wp2_with (first | (refine (HC _).mono ?_; rintro e w1 ⟨rfl, g1⟩) | (refine (HP _).mono ?_; rintro e w2 ⟨rfl, g2⟩))
      go_returns
      exact ⟨HR.out.symm, g1.trans g2⟩
  | true =>
    rw [if_pos rfl] at hv ho
    have HN := fun w => number_any (bs A) w (by rw [bs_size]; omega)
    unfold numR at HN
    rw [bs_list] at HN
    have HS := fun w => parseSeconds_any (bs B) w (by rw [bs_size]; omega)
    unfold secR at HS
    rw [bs_list] at HS
    obtain ⟨q0, q1⟩ := secW_bd B
    have hsA := bs_size A
    cases hA : numOk 9 A with
    | false =>
      have HR := Lib.hid (show timR s = .returned (.tuple #[.int .i64 0, .bool false]) by unfold timR; rw [hv, ho, hA, if_neg (by simp)]; rfl)
      rw [numV_no hA, hA] at HN
      clear hv ho hsp hl hlen hA hsA
      go_enter Tryd.func54, Tryd.ntmps54
      go_wp2_with (first | (refine (HC _).mono ?_; rintro e w1 ⟨rfl, g1⟩) | (refine (HN _).mono ?_; rintro e w2 ⟨rfl, rfl⟩) | (refine (HS _).mono ?_; rintro e w2 ⟨rfl, g2⟩))
      go_returns
      exact ⟨HR.out.symm, g1⟩
    | true =>
      rw [numV_ok hA, hA] at HN
      by_cases h0 : val A = 0
      · have HR := Lib.hid (show timR s = .returned (.tuple #[.int .i64 0, .bool false]) by unfold timR; rw [hv, ho, hA, if_neg (fun h => h.2.1 h0), h0]; rfl)
        rw [h0] at HN
        clear hv ho hsp hl hlen hA hsA h0
        go_enter Tryd.func54, Tryd.ntmps54
        go_wp2_with (first | (refine (HC _).mono ?_; rintro e w1 ⟨rfl, g1⟩) | (refine (HN _).mono ?_; rintro e w2 ⟨rfl, rfl⟩) | (refine (HS _).mono ?_; rintro e w2 ⟨rfl, g2⟩))
        go_returns
        exact ⟨HR.out.symm, g1⟩
      · have hA0 : (val A == 0) = false := beq_eq_false_iff_ne.2 h0
        by_cases h4 : A.length ≤ 4
        · have hb := numOk_bd hA
          have b2 : val A < 10 ^ 4 := Int.lt_of_lt_of_le (val_bd (numOk_iff.1 hA).2.2.1).2 (pow10_mono h4)
          have b2 : val A < 10000 := by simpa using b2
          have b0 := hb.1
          have HR := Lib.hid (show timR s = .returned (.tuple #[.int .i64 (val A * 60000 + secW B), .bool (secOk B)]) by
            unfold timR
            rw [hv, ho, hA, if_pos ⟨rfl, h0, h4⟩, decide_eq_true h4, decide_eq_true h0]; simp)
          have hsA' : (bs A).size ≤ 4 := by omega
          clear hv ho hsp hl hlen hA hsA h0 hb
          generalize secW B = v at *
          generalize secOk B = o at *
          generalize val A = m at *
          go_enter Tryd.func54, Tryd.ntmps54
          go_wp2_with (first | (refine (HC _).mono ?_; rintro e w1 ⟨rfl, g1⟩) | (refine (HN _).mono ?_; rintro e w2 ⟨rfl, rfl⟩) | (refine (HS _).mono ?_; rintro e w2 ⟨rfl, g2⟩))
          go_returns
          exact ⟨HR.out.symm, g1.trans g2⟩
        · have HR := Lib.hid (show timR s = .returned (.tuple #[.int .i64 0, .bool false]) by
            unfold timR
            rw [hv, ho, hA, if_neg (fun h => h4 h.2.2), decide_eq_false h4]; simp)
          have hsA' : 4 < (bs A).size := by omega
          clear hv ho hsp hl hlen hA hsA h0
          go_enter Tryd.func54, Tryd.ntmps54
          go_wp2_with (first | (refine (HC _).mono ?_; rintro e w1 ⟨rfl, g1⟩) | (refine (HN _).mono ?_; rintro e w2 ⟨rfl, rfl⟩) | (refine (HS _).mono ?_; rintro e w2 ⟨rfl, g2⟩))
          go_returns
          exact ⟨HR.out.symm, g1⟩

def rtV (l : List UInt8) : Int := if tOk l = true ∧ tV l ≤ 36000000 then tV l else 0
def rtX (l : List UInt8) : Int := if tOk l = true then (if tV l ≤ 36000000 then 0 else 1) else 9
def rtR (s : ByteArray) : Ending := .returned (.tuple #[.int .i64 (rtV s.data.toList), .int .i64 (rtX s.data.toList)])
set_option maxHeartbeats 800000 in
theorem readTime_any (s : ByteArray) (w : World) (hs : s.size ≤ 4611686018427387904) :
    Calls Tryd.prog 21 #[.string s] w fun e w' => e = rtR s ∧ Gr w w' := by
  have HT := fun w => parseTime_any s w hs
  unfold timR at HT
  cases ho : tOk s.data.toList with
  | false =>
    rw [ho] at HT
    have HR := Lib.hid (show rtR s = .returned (.tuple #[.int .i64 0, .int .i64 9]) by unfold rtR rtV rtX; rw [ho]; simp)
    clear ho
    go_enter Tryd.func21, Tryd.ntmps21
    go_wp2_with (refine (HT _).mono ?_; rintro e w1 ⟨rfl, g1⟩)
    go_returns
    exact ⟨HR.out.symm, g1⟩
  | true =>
    rw [ho, tW_ok ho] at HT
    have h0 := (time_read ho).2
    have HI := fun w => isTime_any (tV s.data.toList) w
    by_cases h1 : tV s.data.toList ≤ 36000000
    · have HR := Lib.hid (show rtR s = .returned (.tuple #[.int .i64 (tV s.data.toList), .int .i64 0]) by unfold rtR rtV rtX; rw [ho, if_pos ⟨rfl, h1⟩, if_pos rfl, if_pos h1])
      rw [isTm_iff.2 ⟨h0, h1⟩] at HI
      clear ho h0 h1
      go_enter Tryd.func21, Tryd.ntmps21
      go_wp2_with (first | (refine (HT _).mono ?_; rintro e w1 ⟨rfl, g1⟩) | (refine (HI _).mono ?_; rintro e w2 ⟨rfl, rfl⟩))
      go_returns
      exact ⟨HR.out.symm, g1⟩
    · have HR := Lib.hid (show rtR s = .returned (.tuple #[.int .i64 0, .int .i64 1]) by unfold rtR rtV rtX; rw [ho, if_neg (fun h => h1 h.2), if_pos rfl, if_neg h1])
      rw [show isTm (tV s.data.toList) = false by rw [Bool.eq_false_iff]; intro hh; exact h1 (isTm_iff.1 hh).2] at HI
      clear ho h0 h1
      go_enter Tryd.func21, Tryd.ntmps21
      go_wp2_with (first | (refine (HT _).mono ?_; rintro e w1 ⟨rfl, g1⟩) | (refine (HI _).mono ?_; rintro e w2 ⟨rfl, rfl⟩))
      go_returns
      exact ⟨HR.out.symm, g1⟩
end Go.Proofs.YtfeeolfekfkdiaaDoor
