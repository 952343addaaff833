/- Names: IsWord and IsName of the reference. -/
import Derived.Test.YtcidldomnifdeaaDoorName
namespace Go.Proofs.YtcidldomnifdeaaDoor
open Go.RowKit Go.Sort

theorem all_take_snoc (s : ByteArray) (k : Nat) (h : k < s.size) (p : UInt8 → Bool) : (s.data.toList.take (k + 1)).all p = ((s.data.toList.take k).all p && p s[k]) := by
  rw [List.take_succ_eq_append_getElem (by simpa using h), List.all_append]
  simp only [List.all_cons, List.all_nil, Bool.and_true]; rfl
theorem plainB_iff (c : UInt8) : plainB c = true ↔ (97 ≤ (c.toNat : Int) ∧ (c.toNat : Int) ≤ 122) ∨ (48 ≤ (c.toNat : Int) ∧ (c.toNat : Int) ≤ 57) ∨ (c.toNat : Int) = 45 := by
  unfold plainB; simp only [Bool.or_eq_true, Bool.and_eq_true, decide_eq_true_eq, beq_iff_eq]; omega
theorem not_all (s : ByteArray) (k : Nat) (h : k < s.size) (p : UInt8 → Bool) (hp : p s[k] = false) : s.data.toList.all p = false := by
  rw [Bool.eq_false_iff]
  intro ha
  have := List.all_eq_true.1 ha s[k] (by show s.data[k] ∈ _; simp)
  rw [hp] at this; cases this

set_option maxHeartbeats 3200000 in
theorem isWord_ref (s : ByteArray) (w : World) (hs : s.size ≤ 9223372036854775807) :
    Calls Tryd.prog 67 #[.string s] w fun e w' => e = .returned (.bool (isPl s.data.toList)) ∧ w' = w := by
  go_enter Tryd.func67, Tryd.ntmps67
  go_wp2
  go_loop [7] (fun i => ∃ k : Nat, k ≤ s.size ∧ i = .int .i64 k ∧ (s.data.toList.take k).all plainB = true) (fun i => s.size - (intOf i).toNat)
  case atStart => exact ⟨0, Nat.zero_le _, rfl, rfl⟩
  case round =>
    obtain ⟨k, hk, rfl, ha⟩ := hrel
    have HA := Lib.hid ha
    clear ha
    by_cases hlt : k < s.size
    · have hts := Lib.hid (all_take_snoc s k hlt plainB)
      have hpi := Lib.hid (plainB_iff s[k])
      have hno := Lib.hid (not_all s k hlt plainB)
      have key : ((s[k].toNat : Int) < 45) ∨ (s[k].toNat : Int) = 45 ∨ (46 ≤ (s[k].toNat : Int) ∧ (s[k].toNat : Int) < 48) ∨ (48 ≤ (s[k].toNat : Int) ∧ (s[k].toNat : Int) ≤ 57) ∨ (58 ≤ (s[k].toNat : Int) ∧ (s[k].toNat : Int) < 97) ∨ (97 ≤ (s[k].toNat : Int) ∧ (s[k].toNat : Int) ≤ 122) ∨ (122 < (s[k].toNat : Int)) := by omega
      rcases key with h | h | h | h | h | h | h
      · have hb : Hid (isPl s.data.toList = false) := by
          show _ = _; unfold isPl; rw [hno.out (Bool.eq_false_iff.2 (fun h2 => by have := hpi.out.1 h2; omega))]; simp
        have u1 : (s[k].toNat : Int) < 97 := by omega
        have u2 : (s[k].toNat : Int) < 48 := by omega
        have u3 : ((s[k].toNat : Int) != 45) = true := by simp only [bne_iff_ne]; omega
        go_wp2
        go_ret
        exact ⟨ret_bool hb.out.symm, rfl⟩
      · have hp := hpi.out.2 (by omega)
        have hn : Hid ((s.data.toList.take (k + 1)).all plainB = true) := by show _ = _; rw [hts.out, HA.out, hp]; rfl
        have u1 : (s[k].toNat : Int) < 97 := by omega
        have u2 : (s[k].toNat : Int) < 48 := by omega
        have u3 : ((s[k].toNat : Int) != 45) = false := by simp only [bne_eq_false_iff_eq]; exact h
        clear h hp
        go_wp2
        go_round
        case rel => exact ⟨k + 1, by omega, by go_num, hn.out⟩
        case measure => simp [intOf]; omega
      · have hb : Hid (isPl s.data.toList = false) := by
          show _ = _; unfold isPl; rw [hno.out (Bool.eq_false_iff.2 (fun h2 => by have := hpi.out.1 h2; omega))]; simp
        have u1 : (s[k].toNat : Int) < 97 := by omega
        have u2 : (s[k].toNat : Int) < 48 := by omega
        have u3 : ((s[k].toNat : Int) != 45) = true := by simp only [bne_iff_ne]; omega
        go_wp2
        go_ret
        exact ⟨ret_bool hb.out.symm, rfl⟩
      · have hp := hpi.out.2 (by omega)
        have hn : Hid ((s.data.toList.take (k + 1)).all plainB = true) := by show _ = _; rw [hts.out, HA.out, hp]; rfl
        have u1 : (s[k].toNat : Int) < 97 := by omega
        have u2 : 48 ≤ (s[k].toNat : Int) := by omega
        have u3 : (s[k].toNat : Int) ≤ 57 := by omega
        clear h hp
        go_wp2
        go_round
        case rel => exact ⟨k + 1, by omega, by go_num, hn.out⟩
        case measure => simp [intOf]; omega
      · have hb : Hid (isPl s.data.toList = false) := by
          show _ = _; unfold isPl; rw [hno.out (Bool.eq_false_iff.2 (fun h2 => by have := hpi.out.1 h2; omega))]; simp
        have u1 : (s[k].toNat : Int) < 97 := by omega
        have u2 : 48 ≤ (s[k].toNat : Int) := by omega
        have u4 : 57 < (s[k].toNat : Int) := by omega
        have u3 : ((s[k].toNat : Int) != 45) = true := by simp only [bne_iff_ne]; omega
        go_wp2
        go_ret
        exact ⟨ret_bool hb.out.symm, rfl⟩
      · have hp := hpi.out.2 (by omega)
        have hn : Hid ((s.data.toList.take (k + 1)).all plainB = true) := by show _ = _; rw [hts.out, HA.out, hp]; rfl
        have u1 : 97 ≤ (s[k].toNat : Int) := by omega
        have u2 : (s[k].toNat : Int) ≤ 122 := by omega
        clear h hp
        go_wp2
        go_round
        case rel => exact ⟨k + 1, by omega, by go_num, hn.out⟩
        case measure => simp [intOf]; omega
      · have hb : Hid (isPl s.data.toList = false) := by
          show _ = _; unfold isPl; rw [hno.out (Bool.eq_false_iff.2 (fun h2 => by have := hpi.out.1 h2; omega))]; simp
        have u1 : 97 ≤ (s[k].toNat : Int) := by omega
        have u2 : 48 ≤ (s[k].toNat : Int) := by omega
        have u4 : 57 < (s[k].toNat : Int) := by omega
        have u3 : ((s[k].toNat : Int) != 45) = true := by simp only [bne_iff_ne]; omega
        go_wp2
        go_ret
        exact ⟨ret_bool hb.out.symm, rfl⟩
    · obtain rfl : k = s.size := by omega
      have hall : Hid (s.data.toList.all plainB = true) := by
        show _ = _; have := HA.out; rwa [List.take_of_length_le (by simp)] at this
      have he : Hid (isPl s.data.toList = !s.data.toList.isEmpty) := by show _ = _; unfold isPl; rw [hall.out, Bool.and_true]
      go_wp2
      go_ret
      exact ⟨ret_bool (by rw [he.out, Lib.toList_data]), rfl⟩

theorem isWord_is (s : ByteArray) (v : Bool) (h : isPl s.data.toList = v) (w : World) (hs : s.size ≤ 9223372036854775807) :
    Calls Tryd.prog 67 #[.string s] w fun e w' => e = .returned (.bool v) ∧ w' = w := by subst h; exact isWord_ref s w hs
set_option maxHeartbeats 1600000 in
theorem isName_ref (s : ByteArray) (w : World) (hs : s.size ≤ 9223372036854775807) :
    Calls Tryd.prog 39 #[.string s] w fun e w' => e = .returned (.bool (isNm s.data.toList)) ∧ w' = w := by
  have hsz := Lib.hid (Lib.size_eq s)
  cases hp : isPl s.data.toList with
  | false =>
    have H := Lib.hid (fun w => isWord_is s false hp w hs)
    have e : Hid (isNm s.data.toList = false) := by show _ = _; unfold isNm; rw [hp]; simp
    clear hp
    go_enter Tryd.func39, Tryd.ntmps39
    go_wp2_with (go_at_call 67; refine (H.out _).mono ?_; rintro e w1 ⟨rfl, rfl⟩)
    go_returns
    exact ⟨ret_bool e.out.symm, rfl⟩
  | true =>
    have H := Lib.hid (fun w => isWord_is s true hp w hs)
    have h0 : 0 < s.size := by
      rcases Nat.eq_zero_or_pos s.size with h | h
      · have hl : s.data.toList = [] := List.eq_nil_of_length_eq_zero (by rw [← hsz.out]; exact h)
        rw [hl] at hp; cases hp
      · exact h
    by_cases h20 : s.size ≤ 20
    · have t1 : decide ((s.size : Int) ≤ 20) = true := by simp; omega
      have e : Hid (isNm s.data.toList = (decide (97 ≤ s[0].toNat) && decide (s[0].toNat ≤ 122))) := by
        show _ = _; unfold isNm; rw [hp, head_get s h0, ← hsz.out, decide_eq_true h20]; simp
      clear hp
      by_cases h1 : 97 ≤ s[0].toNat
      · have u1 : (97 : Int) ≤ (s[0].toNat : Int) := by omega
        by_cases h2 : s[0].toNat ≤ 122
        · have u2 : (s[0].toNat : Int) ≤ 122 := by omega
          have e' : Hid (isNm s.data.toList = true) := by show _ = _; rw [e.out, decide_eq_true h1, decide_eq_true h2]; rfl
          clear h1 h2
          go_enter Tryd.func39, Tryd.ntmps39
          go_wp2_with (go_at_call 67; refine (H.out _).mono ?_; rintro e w1 ⟨rfl, rfl⟩)
          go_returns
          exact ⟨ret_bool e'.out.symm, rfl⟩
        · have u2 : (122 : Int) < (s[0].toNat : Int) := by omega
          have u3 : decide ((s[0].toNat : Int) ≤ 122) = false := by simp only [decide_eq_false_iff_not]; omega
          have e' : Hid (isNm s.data.toList = false) := by show _ = _; rw [e.out, decide_eq_false h2]; simp
          clear h1 h2
          go_enter Tryd.func39, Tryd.ntmps39
          go_wp2_with (go_at_call 67; refine (H.out _).mono ?_; rintro e w1 ⟨rfl, rfl⟩)
          go_returns
          exact ⟨ret_bool e'.out.symm, rfl⟩
      · have u1 : (s[0].toNat : Int) < 97 := by omega
        have e' : Hid (isNm s.data.toList = false) := by show _ = _; rw [e.out, decide_eq_false h1]; rfl
        clear h1
        go_enter Tryd.func39, Tryd.ntmps39
        go_wp2_with (go_at_call 67; refine (H.out _).mono ?_; rintro e w1 ⟨rfl, rfl⟩)
        go_returns
        exact ⟨ret_bool e'.out.symm, rfl⟩
    · have t1 : decide ((s.size : Int) ≤ 20) = false := by simp; omega
      have e : Hid (isNm s.data.toList = false) := by show _ = _; unfold isNm; rw [← hsz.out, decide_eq_false h20]; rfl
      clear h20 hp
      go_enter Tryd.func39, Tryd.ntmps39
      go_wp2_with (go_at_call 67; refine (H.out _).mono ?_; rintro e w1 ⟨rfl, rfl⟩)
      go_returns
      exact ⟨ret_bool e.out.symm, rfl⟩
end Go.Proofs.YtcidldomnifdeaaDoor
