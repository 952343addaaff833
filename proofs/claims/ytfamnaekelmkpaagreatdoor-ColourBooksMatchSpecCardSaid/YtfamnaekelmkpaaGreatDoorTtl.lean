/- Titles: IsTitle of the program. -/
import Derived.Test.YtfamnaekelmkpaaGreatDoorTtlM
import Derived.Test.YtfamnaekelmkpaaGreatDoorLibT
import Derived.Test.YtfamnaekelmkpaaGreatDoorGr
import Derived.Test.YtfamnaekelmkpaaGreatDoorBl
import Derived.Test.YtfamnaekelmkpaaGreatDoorRet
namespace Go.Proofs.YtfamnaekelmkpaaGreatDoor
open Go.RowKit Go.Sort

theorem ttl_snoc (s : ByteArray) (k : Nat) (h : k < s.size) : (s.data.toList.take (k + 1)).all ttlB = ((s.data.toList.take k).all ttlB && ttlB s[k]) := by
  rw [List.take_succ_eq_append_getElem (by simpa using h), List.all_append]
  simp only [List.all_cons, List.all_nil, Bool.and_true]; rfl
theorem ttl_not (s : ByteArray) (k : Nat) (h : k < s.size) (hp : ttlB s[k] = false) : s.data.toList.all ttlB = false := by
  rw [Bool.eq_false_iff]
  intro ha
  have := List.all_eq_true.1 ha s[k] (by show s.data[k] ∈ _; simp)
  rw [hp] at this; cases this
set_option maxRecDepth 100000 in
set_option maxHeartbeats 1600000 in
theorem isTitle_any (s : ByteArray) (w : World) (hs : s.size ≤ 9223372036854775807) :
    Calls Tryz.prog 17 #[.string s] w fun e w' => e = .returned (.bool (isTtl s.data.toList)) ∧ Bl w w' := by
  have hll := Lib.hid (Lib.size_eq s)
  go_enter Tryz.func17, Tryz.ntmps17
  go_wp2
  go_loop [6] (fun i => ∃ k : Nat, k ≤ s.size ∧ i = .int .i64 k ∧ Hid ((s.data.toList.take k).all ttlB = true)) (fun i => s.size - (intOf i).toNat)
  case atStart => exact ⟨0, Nat.zero_le _, rfl, rfl⟩
  case round =>
    obtain ⟨k, hk, rfl, HA⟩ := hrel
    by_cases hlt : k < s.size
    · cases hp : ttlB s[k] with
      | true =>
        obtain ⟨h1, h2⟩ := (ttlB_iff s[k]).1 hp
        have hn : Hid ((s.data.toList.take (k + 1)).all ttlB = true) := by show _ = _; rw [ttl_snoc s k hlt, HA.out, hp]; rfl
        clear hp HA
        go_wp2
        go_round
        case rel => exact ⟨k + 1, by omega, by go_num, hn⟩
        case measure => simp [intOf]; omega
      | false =>
        have hb : Hid (isTtl s.data.toList = false) := by show _ = _; unfold isTtl; rw [ttl_not s k hlt hp]; rfl
        have key : (s[k].toNat : Int) < 32 ∨ (32 ≤ (s[k].toNat : Int) ∧ 126 < (s[k].toNat : Int)) := by
          by_cases h : 32 ≤ (s[k].toNat : Int) ∧ (s[k].toNat : Int) ≤ 126
          · rw [(ttlB_iff s[k]).2 h] at hp; cases hp
          · omega
        clear hp HA
        rcases key with h | ⟨h, h'⟩
        all_goals (
          go_wp2
          go_ret
          exact ⟨ret_bool hb.out.symm, Bl.refl w⟩)
    · obtain rfl : k = s.size := by omega
      have hall : s.data.toList.all ttlB = true := by
        have := HA.out; rwa [List.take_of_length_le (by simp)] at this
      have he : isTtl s.data.toList = (!s.data.toList.isEmpty && (decide (s.data.toList.length ≤ 60) && decide (Lib.trimS s.data.toList [32] = s.data.toList))) := by unfold isTtl; rw [hall, Bool.true_and]
      have H := Lib.hid (fun w => Tryz.strings_Trim s ⟨#[32]⟩ w hs (by decide) (by intro j b hb; exact of_decide_eq_true (List.all_eq_true.1 (show ([32] : List UInt8).all (fun b => decide (b.toNat < 128)) = true by decide) b (List.mem_of_getElem? hb))))
      rw [show (⟨#[32]⟩ : ByteArray).data.toList = [32] from rfl] at H
      by_cases h0 : s.size = 0
      · have hl : s.data.toList = [] := List.eq_nil_of_length_eq_zero (by rw [← hll.out]; exact h0)
        have hb : Hid (isTtl s.data.toList = false) := by show _ = _; rw [hl]; rfl
        have e1 : s.toList = [] := by rw [Lib.toList_data]; exact hl
        have e2 : (!s.toList.isEmpty) = false := by rw [e1]; rfl
        clear he hall HA H hl
        go_wp2
        go_ret
        exact ⟨ret_bool hb.out.symm, Bl.refl w⟩
      · have e1 : (!s.toList.isEmpty) = true := by
          rw [Lib.toList_data]; cases h : s.data.toList with
          | nil => exact absurd (by rw [hll.out, h]; rfl) h0
          | cons _ _ => rfl
        rw [← Lib.toList_data, e1, Bool.true_and, Lib.toList_data] at he
        by_cases h60 : s.size ≤ 60
        · have t60 : (s.size : Int) ≤ 60 := by omega
          rw [decide_eq_true (by rw [← hll.out]; exact h60), Bool.true_and] at he
          have hb : Hid (isTtl s.data.toList = decide (Lib.trimS s.data.toList [32] = s.data.toList)) := he
          have t1 : ∀ T : List UInt8, ((⟨T.toArray⟩ : ByteArray).toList == s.toList) = decide (T = s.data.toList) := fun T => by
            rw [Lib.toList_data, Lib.toList_data]
            show (T.toArray.toList == s.data.toList) = _
            rw [List.toList_toArray, Bool.eq_iff_iff, beq_iff_eq, decide_eq_true_eq]
          have t2 := t1 (Lib.trimS s.data.toList [32])
          clear he hall HA h60 t1
          generalize Lib.trimS s.data.toList [32] = T at *
          generalize (⟨T.toArray⟩ : ByteArray) = Z at *
          go_wp2_with (go_at_call 32; refine (H.out _).mono ?_; rintro e w1 ⟨rfl, hb1⟩)
          go_ret
          exact ⟨ret_bool hb.out.symm, hb1⟩
        · have t60 : (60 : Int) < (s.size : Int) := by omega
          have t61 : decide ((s.size : Int) ≤ 60) = false := by simp; omega
          rw [decide_eq_false (by rw [← hll.out]; exact h60), Bool.false_and] at he
          have hb : Hid (isTtl s.data.toList = false) := he
          clear he hall HA H h60
          go_wp2
          go_ret
          exact ⟨ret_bool hb.out.symm, Bl.refl w⟩
end Go.Proofs.YtfamnaekelmkpaaGreatDoor
