/- Names: IsPlain and IsName of the program. -/
import Derived.Test.YtcidldomnifdeaaDoorNameM
import Derived.Test.YtcidldomnifdeaaDoorLibT
import Derived.Test.YtcidldomnifdeaaDoorGr
import Derived.Test.YtcidldomnifdeaaDoorBl
import Derived.Test.YtcidldomnifdeaaDoorRet
namespace Go.Proofs.YtcidldomnifdeaaDoor
open Go.RowKit Go.Sort

set_option maxHeartbeats 800000 in
theorem isPlain_any (s : ByteArray) (w : World) (hs : s.size ≤ 9223372036854775807) :
    Calls Tryd.prog 64 #[.string s] w fun e w' => e = .returned (.bool (isPl s.data.toList)) ∧ Bl w w' := by
  by_cases h0 : s.size = 0
  · have hl : s.data.toList = [] := List.eq_nil_of_length_eq_zero (by rw [← Lib.size_eq]; exact h0)
    have e1 : s.toList = [] := by rw [Lib.toList_data]; exact hl
    have e2 : (!s.toList.isEmpty) = false := by rw [e1]; rfl
    have e : Hid (isPl s.data.toList = false) := by show _ = _; rw [hl]; rfl
    clear h0 hl
    go_enter Tryd.func64, Tryd.ntmps64
    go_wp2
    go_returns
    exact ⟨ret_bool e.out.symm, Bl.refl w⟩
  · have hl : s.data.toList ≠ [] := fun h => h0 (by rw [Lib.size_eq, h]; rfl)
    have e1 : (!s.toList.isEmpty) = true := by
      rw [Lib.toList_data]; cases h : s.data.toList with
      | nil => exact absurd h hl
      | cons _ _ => rfl
    have H := Lib.hid (fun w => Tryd.strings_Trim s ⟨#[97, 98, 99, 100, 101, 102, 103, 104, 105, 106, 107, 108, 109, 110, 111, 112, 113, 114, 115, 116, 117, 118, 119, 120, 121, 122, 48, 49, 50, 51, 52, 53, 54, 55, 56, 57, 45]⟩ w hs (by decide) (by intro j b hb; exact of_decide_eq_true (List.all_eq_true.1 (show plainL.all (fun b => decide (b.toNat < 128)) = true by decide) b (List.mem_of_getElem? hb))))
    have e : Hid (isPl s.data.toList = s.data.toList.all plainB) := by
      show _ = _; unfold isPl
      cases h : s.data.toList with
      | nil => exact absurd h hl
      | cons _ _ => rfl
    have ht := trim_plain s.data.toList
    cases hp : s.data.toList.all plainB with
    | true =>
      have hT := ht.2 hp
      have hT' : Lib.trimS s.data.toList [97, 98, 99, 100, 101, 102, 103, 104, 105, 106, 107, 108, 109, 110, 111, 112, 113, 114, 115, 116, 117, 118, 119, 120, 121, 122, 48, 49, 50, 51, 52, 53, 54, 55, 56, 57, 45] = [] := hT
      simp only [hT'] at H
      have e' := Lib.hid (e.out.trans hp)
      clear ht hp hT hT' h0 hl
      go_enter Tryd.func64, Tryd.ntmps64
      go_wp2_with (go_at_call 91; refine (H.out _).mono ?_; rintro e w1 ⟨rfl, hb⟩)
      go_returns
      exact ⟨ret_bool e'.out.symm, hb⟩
    | false =>
      have hT : Lib.trimS s.data.toList [97, 98, 99, 100, 101, 102, 103, 104, 105, 106, 107, 108, 109, 110, 111, 112, 113, 114, 115, 116, 117, 118, 119, 120, 121, 122, 48, 49, 50, 51, 52, 53, 54, 55, 56, 57, 45] ≠ [] := fun h => by rw [ht.1 h] at hp; cases hp
      obtain ⟨t, hTt⟩ : ∃ t, t = Lib.trimS s.data.toList [97, 98, 99, 100, 101, 102, 103, 104, 105, 106, 107, 108, 109, 110, 111, 112, 113, 114, 115, 116, 117, 118, 119, 120, 121, 122, 48, 49, 50, 51, 52, 53, 54, 55, 56, 57, 45] := ⟨_, rfl⟩
      simp only [← hTt] at H hT
      have e2 : Hid (t.isEmpty = false) := by
        show _ = _; cases t with
        | nil => exact absurd rfl hT
        | cons _ _ => rfl
      have e' := Lib.hid (e.out.trans hp)
      clear ht hp hT hTt h0 hl
      go_enter Tryd.func64, Tryd.ntmps64
      go_wp2_with (go_at_call 91; refine (H.out _).mono ?_; rintro e w1 ⟨rfl, hb⟩)
      go_returns
      exact ⟨ret_bool (e2.out.trans e'.out.symm), hb⟩

theorem isPlain_is (s : ByteArray) (v : Bool) (h : isPl s.data.toList = v) (w : World) (hs : s.size ≤ 9223372036854775807) :
    Calls Tryd.prog 64 #[.string s] w fun e w' => e = .returned (.bool v) ∧ Bl w w' := by subst h; exact isPlain_any s w hs
theorem head_get (s : ByteArray) (h : 0 < s.size) : s.data.toList.headD 0 = s[0] := by
  have hl : 0 < s.data.toList.length := by simpa using h
  cases e : s.data.toList with
  | nil => rw [e] at hl; exact absurd hl (Nat.lt_irrefl _)
  | cons a t =>
    show a = s.data[0]
    have : s.data.toList[0]'hl = a := by simp [e]
    rw [← this]; simp

set_option maxHeartbeats 1600000 in
theorem isName_any (s : ByteArray) (w : World) (hs : s.size ≤ 9223372036854775807) :
    Calls Tryd.prog 37 #[.string s] w fun e w' => e = .returned (.bool (isNm s.data.toList)) ∧ Bl w w' := by
  have hsz := Lib.hid (Lib.size_eq s)
  by_cases h20 : s.size ≤ 20
  · have t1 : decide ((s.size : Int) ≤ 20) = true := by simp; omega
    cases hp : isPl s.data.toList with
    | false =>
      have H := Lib.hid (fun w => isPlain_is s false hp w hs)
      have e : Hid (isNm s.data.toList = false) := by show _ = _; unfold isNm; rw [hp]; simp
      clear hp
      go_enter Tryd.func37, Tryd.ntmps37
      go_wp2_with (go_at_call 64; refine (H.out _).mono ?_; rintro e w1 ⟨rfl, hb⟩)
      go_returns
      exact ⟨ret_bool e.out.symm, hb⟩
    | true =>
      have H := Lib.hid (fun w => isPlain_is s true hp w hs)
      have h0 : 0 < s.size := by
        rcases Nat.eq_zero_or_pos s.size with h | h
        · have hl : s.data.toList = [] := List.eq_nil_of_length_eq_zero (by rw [← hsz.out]; exact h)
          rw [hl] at hp; cases hp
        · exact h
      have e : Hid (isNm s.data.toList = (decide (97 ≤ s[0].toNat) && decide (s[0].toNat ≤ 122))) := by
        show _ = _; unfold isNm; rw [hp, head_get s h0, ← hsz.out, decide_eq_true h20]; simp
      clear hp
      by_cases h1 : 97 ≤ s[0].toNat
      · by_cases h2 : s[0].toNat ≤ 122
        · have u1 : (97 : Int) ≤ (s[0].toNat : Int) := by omega
          have u2 : (s[0].toNat : Int) ≤ 122 := by omega
          have e' : Hid (isNm s.data.toList = true) := by show _ = _; rw [e.out, decide_eq_true h1, decide_eq_true h2]; rfl
          clear h1 h2
          go_enter Tryd.func37, Tryd.ntmps37
          go_wp2_with (go_at_call 64; refine (H.out _).mono ?_; rintro e w1 ⟨rfl, hb⟩)
          go_returns
          exact ⟨ret_bool e'.out.symm, hb⟩
        · have u1 : (97 : Int) ≤ (s[0].toNat : Int) := by omega
          have u2 : (122 : Int) < (s[0].toNat : Int) := by omega
          have u3 : decide ((s[0].toNat : Int) ≤ 122) = false := by simp only [decide_eq_false_iff_not]; omega
          have e' : Hid (isNm s.data.toList = false) := by show _ = _; rw [e.out, decide_eq_false h2]; simp
          clear h1 h2
          go_enter Tryd.func37, Tryd.ntmps37
          go_wp2_with (go_at_call 64; refine (H.out _).mono ?_; rintro e w1 ⟨rfl, hb⟩)
          go_returns
          exact ⟨ret_bool e'.out.symm, hb⟩
      · have u1 : (s[0].toNat : Int) < 97 := by omega
        have e' : Hid (isNm s.data.toList = false) := by show _ = _; rw [e.out, decide_eq_false h1]; rfl
        clear h1
        go_enter Tryd.func37, Tryd.ntmps37
        go_wp2_with (go_at_call 64; refine (H.out _).mono ?_; rintro e w1 ⟨rfl, hb⟩)
        go_returns
        exact ⟨ret_bool e'.out.symm, hb⟩
  · have t1 : decide ((s.size : Int) ≤ 20) = false := by simp; omega
    have e : Hid (isNm s.data.toList = false) := by show _ = _; unfold isNm; rw [← hsz.out, decide_eq_false h20]; rfl
    clear h20
    go_enter Tryd.func37, Tryd.ntmps37
    go_wp2
    go_returns
    exact ⟨ret_bool e.out.symm, Bl.refl w⟩
end Go.Proofs.YtcidldomnifdeaaDoor
