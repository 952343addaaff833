/- The reference's numbers in texts: Number and Decimal. -/
import Derived.Test.YtfamnaekelmkpaaGreatDoorDecP
import Derived.Lib.Atoi
import Derived.Lib.SmallJoins
namespace Go.Proofs.YtfamnaekelmkpaaGreatDoor
open Go.RowKit Go.Lib

theorem decFrom_val (l : List UInt8) (a : Nat) (h : dgs l = true) : Lib.decFrom a l = some (valF a l).toNat ∧ 0 ≤ valF a l := by
  induction l generalizing a with
  | nil => exact ⟨by simp [Lib.decFrom, valF], by simp [valF]⟩
  | cons c r ih =>
    obtain ⟨h1, h2⟩ := dgs_cons.1 h
    have h1 := isDg_iff.1 h1
    have hd : Lib.digitVal c = some (c.toNat - 48) := by unfold Lib.digitVal; rw [if_pos ⟨by omega, by omega⟩]
    obtain ⟨i1, i2⟩ := ih (a * 10 + (c.toNat - 48)) h2
    have e : ((a * 10 + (c.toNat - 48) : Nat) : Int) = 10 * (a : Int) + ((c.toNat : Int) - 48) := by omega
    rw [e] at i1 i2
    unfold Lib.decFrom
    rw [hd]
    exact ⟨i1, i2⟩
theorem atoi_val (l : List UInt8) (h : dgs l = true) (hne : l ≠ []) : Lib.atoi l = some (val l) := by
  cases l with
  | nil => exact absurd rfl hne
  | cons c r =>
    have h1 := isDg_iff.1 (dgs_cons.1 h).1
    obtain ⟨i1, i2⟩ := decFrom_val (c :: r) 0 h
    have h45 : (c == 45) = false := by
      rw [byte_eq]; show ((c.toNat : Int) == 45) = false; rw [beq_eq_false_iff_ne]; omega
    have h43 : (c == 43) = false := by
      rw [byte_eq]; show ((c.toNat : Int) == 43) = false; rw [beq_eq_false_iff_ne]; omega
    unfold Lib.atoi
    simp only [h45, h43, Bool.false_eq_true, if_false]
    unfold Lib.decNat
    simp only [List.isEmpty_cons, Bool.false_eq_true, if_false]
    rw [i1]
    simp only [Option.map_some, Option.some.injEq]
    rw [Int.toNat_of_nonneg i2]; rfl

def numM (m : Nat) (s : ByteArray) : Ending := .returned (.tuple #[.int .i64 (if numOk m s.data.toList = true then val s.data.toList else 0), .bool (numOk m s.data.toList)])
theorem numM_no {m : Nat} {s : ByteArray} (h : numOk m s.data.toList = false) : numM m s = Ending.returned (.tuple #[.int .i64 0, .bool false]) := by unfold numM; rw [h]; rfl
theorem numM_ok {m : Nat} {s : ByteArray} (h : numOk m s.data.toList = true) : numM m s = Ending.returned (.tuple #[.int .i64 (val s.data.toList), .bool true]) := by unfold numM; rw [h]; rfl
set_option maxHeartbeats 1600000 in
theorem numberR (s : ByteArray) (m : Nat) (w : World) (hs : s.size ≤ 9223372036854775807) (hm : m ≤ 9) :
    Calls Tryz.prog 43 #[.string s, .int .i64 m] w fun e w' => e = numM m s ∧ Bl w w' := by
  by_cases h0 : s.size = 0
  · have e := str_nil h0
    subst e
    have HE := Lib.hid (numM_no (m := m) (s := ⟨#[]⟩) (by unfold numOk; rfl))
    go_enter Tryz.func43, Tryz.ntmps43
    go_wp2_with fail
    go_returns
    exact ⟨HE.out.symm, Bl.refl _⟩
  obtain ⟨hE, hE2⟩ := str_ne h0
  by_cases h9 : m < s.size
  · have HN := Lib.hid (numM_no (m := m) (s := s) (by
      unfold numOk
      have : decide (s.data.toList.length ≤ m) = false := by rw [lst_len]; simp; omega
      rw [this]; simp))
    have h9' : decide ((m : Int) < (s.size : Int)) = true := by simp; omega
    have h9'' : decide (m < s.size) = true := by simp; omega
    go_enter Tryz.func43, Tryz.ntmps43
    go_wp2_with fail
    go_returns
    exact ⟨HN.out.symm, Bl.refl _⟩
  have h9' : decide ((m : Int) < (s.size : Int)) = false := by simp; omega
  have h9'' : decide (m < s.size) = false := by simp; omega
  have hpos : 0 < s.size := by omega
  have hh := lst_head s hpos
  -- the loop over the digits, then Atoi
  by_cases h48 : s[0] = 48 ∧ s ≠ ⟨#[48]⟩
  · obtain ⟨h48, hz⟩ := h48
    have hz2 : s.data.toList ≠ [48] := fun e => hz (Go.WideShapes.bytes_inj e)
    have HN := Lib.hid (numM_no (m := m) (s := s) (by
      unfold numOk
      rw [hh, h48, show (s.data.toList == [48]) = false by simpa using hz2]; simp))
    have h48' : ((s[0].toNat : Int) == 48) = true := by rw [h48]; rfl
    have hz' : (s.toList == [48]) = false := by rw [Lib.toList_data]; simpa using hz2
    clear hh hz hz2
    go_enter Tryz.func43, Tryz.ntmps43
    go_wp2_with fail
    go_returns
    exact ⟨HN.out.symm, Bl.refl _⟩
  have hlead : s.data.toList.head? ≠ some 48 ∨ s.data.toList = [48] := by
    by_cases a : s[0] = 48
    · right
      by_cases b : s = ⟨#[48]⟩
      · rw [b]
      · exact absurd ⟨a, b⟩ h48
    · left; rw [hh]; simpa using a
  have HF := Lib.hid (fun (h : dgs s.data.toList = false) => (numM_no (m := m) (s := s) (by unfold numOk; rw [h]; simp)))
  have HT := Lib.hid (fun (h : dgs s.data.toList = true) => (numM_ok (m := m) (s := s) (numOk_iff.2 ⟨fun e => h0 (by rw [← lst_len, e]; rfl), by rw [lst_len]; omega, h, hlead⟩)))
  have HA := Lib.hid (fun (h : dgs s.data.toList = true) w => show Calls Tryz.prog 63 #[.string s] w fun e w' => e = .returned (.tuple #[.int .i64 (val s.data.toList), .nilIface]) ∧ Bl w w' from
    (Tryz.strconv_Atoi s (val s.data.toList) (by omega) (atoi_val _ h (fun e => h0 (by rw [← lst_len, e]; rfl))) w).mono fun e w' ⟨h1, t, h2⟩ => ⟨h1, h2 ▸ Go.Joins.below_bytesWorld _ _ _ _ (Nat.le_refl _)⟩)
  have HD := Lib.hid (fun k (h : k < s.size) => lst_take s k h)
  have HX := Lib.hid (fun k (h : k < s.size) => dgs_no_at s k h)
  have htest : (¬ (s[0].toNat : Int) = 48) ∨ s = ⟨#[48]⟩ := by
    by_cases a : s[0] = 48
    · right
      by_cases b : s = ⟨#[48]⟩
      · exact b
      · exact absurd ⟨a, b⟩ h48
    · left; intro e; exact a (UInt8.toNat_inj.1 (by simpa using (by omega : s[0].toNat = 48)))
  clear hh hlead h48
  rcases htest with hne | hz
  · have h48' : ((s[0].toNat : Int) == 48) = false := beq_eq_false_iff_ne.2 hne
    clear hne
    go_enter Tryz.func43, Tryz.ntmps43
    go_wp2_with fail
    go_loop [28] (fun i => ∃ k : Nat, k ≤ s.size ∧ i = .int .i64 k ∧ dgs (s.data.toList.take k) = true) (fun i => s.size - (intOf i).toNat)
    case atStart => exact ⟨0, Nat.zero_le _, rfl, rfl⟩
    case round =>
      obtain ⟨k, hk, rfl, hd⟩ := hrel
      have HH := Lib.hid hd
      clear hd
      by_cases hlt : k < s.size
      · go_wp2
        · go_returns
          refine ⟨?_, Bl.refl _⟩
          have h1 : (s[k].toNat : Int) < (48 : Int) ∨ (57 : Int) < (s[k].toNat : Int) := by assumption
          exact (HF.out (HX.out k hlt (by rw [Bool.eq_false_iff]; intro hh; have := isDg_iff.1 hh; omega))).symm
        · go_round
          case rel =>
            have h1 : (48 : Int) ≤ (s[k].toNat : Int) ∧ (s[k].toNat : Int) ≤ (57 : Int) := by assumption
            refine ⟨k + 1, by omega, by go_num, ?_⟩
            rw [HD.out k hlt]
            exact dgs_app.2 ⟨HH.out, dgs_cons.2 ⟨isDg_iff.2 h1, rfl⟩⟩
          case measure => simp [intOf]; omega
        · go_returns
          refine ⟨?_, Bl.refl _⟩
          have h1 : (s[k].toNat : Int) < (48 : Int) := by assumption
          exact (HF.out (HX.out k hlt (by rw [Bool.eq_false_iff]; intro hh; have := isDg_iff.1 hh; omega))).symm
      · have hall : dgs s.data.toList = true := by
          have := HH.out
          rwa [List.take_of_length_le (by rw [lst_len]; omega)] at this
        have HA2 := Lib.hid (HA.out hall)
        have HE := Lib.hid (HT.out hall)
        clear hall
        generalize val s.data.toList = v at *
        go_wp2_with (refine (HA2.out _).mono ?_; rintro e w1 ⟨rfl, g⟩)
        go_returns
        exact ⟨HE.out.symm, g⟩
  · subst hz
    have HA2 := Lib.hid (HA.out (by decide))
    have HE := Lib.hid (HT.out (by decide))
    have hs1 : (⟨#[48]⟩ : ByteArray).size = 1 := rfl
    have hm1 : 1 ≤ m := by omega
    have hm2 : decide ((m : Int) < 1) = false := by simp; omega
    clear HA HF HT HD HX h0 hE hE2 h9 h9' h9'' hpos hs hs1
    go_enter Tryz.func43, Tryz.ntmps43
    go_wp2_with fail
    refine wp_loop_rounds 2 ?_
    rw [rounds_succ]
    go_wp2
    rw [rounds_succ]
    go_wp2_with (refine (HA2.out _).mono ?_; rintro e w1 ⟨rfl, g⟩)
    go_returns
    exact ⟨HE.out.symm, g⟩

/-! Decimal. -/
def decM (m p : Nat) (s : ByteArray) : Ending := .returned (.tuple #[.int .i64 (if partsOk m p s.data.toList = true then partsV p s.data.toList else 0), .bool (partsOk m p s.data.toList)])
end Go.Proofs.YtfamnaekelmkpaaGreatDoor
