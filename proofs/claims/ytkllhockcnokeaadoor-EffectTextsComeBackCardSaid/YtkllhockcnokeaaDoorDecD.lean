/- Package decimal: digits and numbers. -/
import Derived.Test.YtkllhockcnokeaaDoorTxT
import Derived.Test.YtkllhockcnokeaaDoorBs
import Derived.Test.YtkllhockcnokeaaDoorBl
import Derived.Test.YtkllhockcnokeaaDoorLib
import Derived.IntWalk
namespace Go.Proofs.YtkllhockcnokeaaDoor
open Go.RowKit Go.Lib

theorem lst_get (s : ByteArray) (k : Nat) (h : k < s.size) : s.data.toList[k]? = some s[k] := by
  rw [List.getElem?_eq_getElem (by rw [lst_len]; exact h)]; rfl
theorem lst_take (s : ByteArray) (k : Nat) (h : k < s.size) : s.data.toList.take (k + 1) = s.data.toList.take k ++ [s[k]] := by
  rw [List.take_succ_eq_append_getElem (by rw [lst_len]; exact h)]; rfl
theorem dgs_take_of (l : List UInt8) (k : Nat) (h : dgs l = true) : dgs (l.take k) = true := by
  rw [← List.take_append_drop k l] at h
  exact (dgs_app.1 h).1
theorem dgs_no_at (s : ByteArray) (k : Nat) (h : k < s.size) (hc : isDg s[k] = false) : dgs s.data.toList = false := by
  cases hd : dgs s.data.toList with
  | false => rfl
  | true =>
    have := dgs_take_of _ (k + 1) hd
    rw [lst_take s k h] at this
    have := (dgs_cons.1 (dgs_app.1 this).2).1
    rw [hc] at this; cases this

theorem ret_bool' {a b : Bool} (h : a = b) : Ending.returned (.bool a) = .returned (.bool b) := by rw [h]
set_option maxHeartbeats 400000 in
theorem isDigits_any (s : ByteArray) (w : World) (hs : s.size ≤ 9223372036854775807) :
    Calls Tryd.prog 70 #[.string s] w fun e w' => e = .returned (.bool (dgs s.data.toList)) ∧ w = w' := by
  go_enter Tryd.func70, Tryd.ntmps70
  go_wp2
  go_loop [6] (fun i => ∃ k : Nat, k ≤ s.size ∧ i = .int .i64 k ∧ dgs (s.data.toList.take k) = true) (fun i => s.size - (intOf i).toNat)
  case atStart => exact ⟨0, Nat.zero_le _, rfl, rfl⟩
  case round =>
    obtain ⟨k, hk, rfl, hd⟩ := hrel
    have HD := Lib.hid hd
    clear hd
    by_cases hlt : k < s.size
    · have HS := Lib.hid (lst_take s k hlt)
      have HN := Lib.hid (dgs_no_at s k hlt)
      go_wp2
      · go_returns
        refine ⟨ret_bool' ?_, rfl⟩
        have h1 : (s[k].toNat : Int) < 48 ∨ 57 < (s[k].toNat : Int) := by assumption
        exact (HN.out (by rw [Bool.eq_false_iff]; intro hh; have := isDg_iff.1 hh; omega)).symm
      · go_round
        case rel =>
          have h1 : 48 ≤ (s[k].toNat : Int) ∧ (s[k].toNat : Int) ≤ 57 := by assumption
          refine ⟨k + 1, by omega, by go_num, ?_⟩
          rw [HS.out]
          exact dgs_app.2 ⟨HD.out, dgs_cons.2 ⟨isDg_iff.2 h1, rfl⟩⟩
        case measure => simp [intOf]; omega
      · go_returns
        refine ⟨ret_bool' ?_, rfl⟩
        have h1 : (s[k].toNat : Int) < 48 := by assumption
        exact (HN.out (by rw [Bool.eq_false_iff]; intro hh; have := isDg_iff.1 hh; omega)).symm
    · go_wp2
      go_returns
      refine ⟨ret_bool' ?_, rfl⟩
      have := HD.out
      rw [List.take_of_length_le (by rw [lst_len]; omega)] at this
      exact this.symm

def numV (l : List UInt8) : Int := if numOk 9 l = true then val l else 0
theorem numV_ok {l : List UInt8} (h : numOk 9 l = true) : numV l = val l := if_pos h
theorem numV_no {l : List UInt8} (h : numOk 9 l = false) : numV l = 0 := if_neg (by rw [h]; decide)
def numR (s : ByteArray) : Ending := .returned (.tuple #[.int .i64 (numV s.data.toList), .bool (numOk 9 s.data.toList)])
theorem numR_no {s : ByteArray} (h : numOk 9 s.data.toList = false) : Ending.returned (.tuple #[.int .i64 0, .bool false]) = numR s := by unfold numR; rw [numV_no h, h]
theorem numR_ok {s : ByteArray} (h : numOk 9 s.data.toList = true) {v : Int} (hv : v = val s.data.toList) : Ending.returned (.tuple #[.int .i64 v, .bool true]) = numR s := by unfold numR; rw [numV_ok h, h, hv]
theorem str_ne {s : ByteArray} (h : s.size ≠ 0) : s.toList.isEmpty = false ∧ ¬ s.toList = [] := by
  have : s.data.toList ≠ [] := fun e => h (by rw [← lst_len, e]; rfl)
  rw [Lib.toList_data]
  refine ⟨?_, this⟩
  cases hl : s.data.toList with
  | nil => exact absurd hl this
  | cons _ _ => rfl
theorem str_nil {s : ByteArray} (h : s.size = 0) : s = ⟨#[]⟩ := by
  have : s.data = #[] := Array.eq_empty_of_size_eq_zero h
  cases s; simp_all
theorem lst_head (s : ByteArray) (h : 0 < s.size) : s.data.toList.head? = some s[0] := by
  rw [List.head?_eq_getElem?]; exact lst_get s 0 h

set_option maxHeartbeats 800000 in
theorem number_any (s : ByteArray) (w : World) (hs : s.size ≤ 9223372036854775807) :
    Calls Tryd.prog 54 #[.string s] w fun e w' => e = numR s ∧ w = w' := by
  have HD := fun w => isDigits_any s w hs
  by_cases h0 : s.size = 0
  · have e := str_nil h0
    subst e
    go_enter Tryd.func54, Tryd.ntmps54
    go_wp2_with fail
    go_returns
    exact ⟨numR_no (by decide), rfl⟩
  obtain ⟨hE, hE2⟩ := str_ne h0
  by_cases h9 : 9 < s.size
  · have hn : numOk 9 s.data.toList = false := by
      unfold numOk
      have : decide (s.data.toList.length ≤ 9) = false := by rw [lst_len]; simp; omega
      rw [this]; simp
    have HN := Lib.hid hn
    have h9' : decide ((9 : Int) < (s.size : Int)) = true := by simp; omega
    clear hn
    go_enter Tryd.func54, Tryd.ntmps54
    go_wp2_with fail
    go_returns
    exact ⟨numR_no HN.out, rfl⟩
  have h9' : decide ((9 : Int) < (s.size : Int)) = false := by simp; omega
  cases hd : dgs s.data.toList with
  | false =>
    have hn : numOk 9 s.data.toList = false := by unfold numOk; rw [hd]; simp
    have HN := Lib.hid hn
    rw [hd] at HD
    clear hn hd
    go_enter Tryd.func54, Tryd.ntmps54
    go_wp2_with (refine (HD _).mono ?_; rintro e w1 ⟨rfl, rfl⟩)
    go_returns
    exact ⟨numR_no HN.out, rfl⟩
  | true =>
    rw [hd] at HD
    have HB := Lib.hid (fun k (hk : k ≤ 9) => val_take_bd hd k hk)
    have hpos : 0 < s.size := by omega
    have hh := lst_head s hpos
    by_cases h48 : s[0] = 48
    · by_cases hz : s = ⟨#[48]⟩
      · subst hz
        clear hs hE hE2 hh hd HB h0 h9 h9' hpos h48
        go_enter Tryd.func54, Tryd.ntmps54
        go_wp2_with (refine (HD _).mono ?_; rintro e w1 ⟨rfl, rfl⟩)
        refine wp_loop_rounds 2 ?_
        rw [rounds_succ]
        go_wp2
        rw [rounds_succ]
        go_wp2
        go_returns
        exact ⟨numR_ok (by decide) (by decide), rfl⟩
      · have hn : numOk 9 s.data.toList = false := by
          have hz2 : (s.data.toList == [48]) = false := by
            simp
            intro e
            exact hz (Go.WideShapes.bytes_inj e)
          unfold numOk
          rw [hh, h48, hz2]; simp
        have HN := Lib.hid hn
        have h48' : ((s[0].toNat : Int) == 48) = true := by rw [h48]; rfl
        have hz' : (s.toList == [48]) = false := by
          rw [Lib.toList_data]
          simp
          intro e
          exact hz (Go.WideShapes.bytes_inj e)
        clear hn hd hh
        go_enter Tryd.func54, Tryd.ntmps54
        go_wp2_with (refine (HD _).mono ?_; rintro e w1 ⟨rfl, rfl⟩)
        go_returns
        exact ⟨numR_no HN.out, rfl⟩
    · have hn : numOk 9 s.data.toList = true := by
        refine numOk_iff.2 ⟨fun e => h0 (by rw [← lst_len, e]; rfl), by rw [lst_len]; omega, hd, Or.inl ?_⟩
        rw [hh]; simpa using h48
      have HN := Lib.hid hn
      have h48' : ((s[0].toNat : Int) == 48) = false := by
        rw [beq_eq_false_iff_ne]
        intro e
        exact h48 (UInt8.toNat_inj.1 (by simpa using (by omega : s[0].toNat = 48)))
      have HG := Lib.hid (fun k (h : k < s.size) => lst_take s k h)
      have HDG := Lib.hid hd
      clear hn hd hh
      go_enter Tryd.func54, Tryd.ntmps54
      go_wp2_with (refine (HD _).mono ?_; rintro e w1 ⟨rfl, rfl⟩)
      go_loop [4, 27] (fun n i => ∃ k : Nat, k ≤ s.size ∧ i = .int .i64 k ∧ n = .int .i64 (val (s.data.toList.take k))) (fun _ i => s.size - (intOf i).toNat)
      case atStart => exact ⟨0, Nat.zero_le _, rfl, rfl⟩
      case round =>
        obtain ⟨k, hk, rfl, rfl⟩ := hrel
        by_cases hlt : k < s.size
        · obtain ⟨b1, b2⟩ := HB.out k (by omega)
          have HS := Lib.hid (HG.out k hlt)
          have hdk : isDg s[k] = true := by
            have := dgs_take_of _ (k + 1) HDG.out
            rw [HG.out k hlt] at this
            exact (dgs_cons.1 (dgs_app.1 this).2).1
          obtain ⟨c1, c2⟩ := isDg_iff.1 hdk
          clear hdk
          have HV := Lib.hid (show val (s.data.toList.take (k + 1)) = 10 * val (s.data.toList.take k) + ((s[k].toNat : Int) - 48) by rw [HS.out]; exact valF_snoc 0 _ _)
          go_wp2
          go_round
          case rel => exact ⟨k + 1, by omega, by go_num, by rw [HV.out]⟩
          case measure => simp [intOf]; omega
        · go_wp2
          go_returns
          refine ⟨numR_ok HN.out ?_, rfl⟩
          rw [List.take_of_length_le (by rw [lst_len]; omega)]
end Go.Proofs.YtkllhockcnokeaaDoor
