/- Package decimal: a text cut at one byte; parts, read and written. -/
import Derived.Test.YtkllhockcnokeaaDoorDecD
import Derived.Test.YtkllhockcnokeaaDoorBs
import Derived.Lib.CutLaws
namespace Go.Proofs.YtkllhockcnokeaaDoor
open Go.RowKit Go.Lib

def cutR (s : ByteArray) (c : UInt8) : Ending := .returned (.tuple #[.string (bs (cut1 c s.data.toList).1), .string (bs (cut1 c s.data.toList).2.1), .bool (cut1 c s.data.toList).2.2])
set_option maxHeartbeats 400000 in
theorem cutl_any (s : ByteArray) (c : UInt8) (w : World) (hs : s.size ≤ 4611686018427387904) :
    Calls Tryd.prog 73 #[.string s, .string ⟨#[c]⟩] w fun e w' => e = cutR s c ∧ Gr w w' := by
  have h1 : (⟨#[c]⟩ : ByteArray).size = 1 := rfl
  have HI := fun w => Tryd.stringslite_Index_one s c w
  rw [← Lib.index_one] at HI
  have hix := Lib.indexB_cases s ⟨#[c]⟩
  unfold cutR
  rw [← cut_one]
  rcases hix with hix | ⟨i, hix, hroom⟩
  · obtain ⟨e1, e2, e3⟩ := Lib.cutB_miss s ⟨#[c]⟩ hix
    have e1 : bs (Lib.cut s.data.toList [c]).1 = s := e1
    have e2 : bs (Lib.cut s.data.toList [c]).2.1 = ByteArray.empty := e2
    have e3 : (Lib.cut s.data.toList [c]).2.2 = false := e3
    rw [e1, e2, e3]
    rw [show Lib.index s.data.toList [c] = -1 from hix] at HI
    clear e1 e2 e3 hix
    go_enter Tryd.func73, Tryd.ntmps73
    go_wp2_with (refine (HI _).mono ?_; rintro e w1 ⟨rfl, rfl⟩)
    go_returns
    exact ⟨rfl, Gr.refl _⟩
  · obtain ⟨e1, e2, e3⟩ := Lib.cutB_hit s ⟨#[c]⟩ i hix
    have e1 : bs (Lib.cut s.data.toList [c]).1 = s.extract 0 i := e1
    have e2 : bs (Lib.cut s.data.toList [c]).2.1 = s.extract (i + 1) s.size := e2
    have e3 : (Lib.cut s.data.toList [c]).2.2 = true := e3
    rw [e1, e2, e3]
    rw [show Lib.index s.data.toList [c] = i from hix] at HI
    have c1 : (0 : Int) ≤ ↑i := by omega
    have c2 : (↑i : Int) ≤ ↑s.size := by omega
    have c3 : (0 : Int) ≤ ↑i + 1 := by omega
    have c4 : (↑i + 1 : Int) ≤ ↑s.size := by omega
    clear e1 e2 e3 hix
    go_enter Tryd.func73, Tryd.ntmps73
    go_wp2_with (refine (HI _).mono ?_; rintro e w1 ⟨rfl, rfl⟩)
    go_region
    all_goals go_wp2
    all_goals go_returns
    all_goals exact ⟨rfl, (Gr.refl _).drew⟩
set_option maxHeartbeats 400000 in
theorem cut_any (s : ByteArray) (c : UInt8) (w : World) (hs : s.size ≤ 4611686018427387904) :
    Calls Tryd.prog 57 #[.string s, .string ⟨#[c]⟩] w fun e w' => e = cutR s c ∧ Gr w w' := by
  have HI := fun w => cutl_any s c w hs
  unfold cutR at HI ⊢
  generalize bs (cut1 c s.data.toList).1 = a at *
  generalize bs (cut1 c s.data.toList).2.1 = b at *
  generalize (cut1 c s.data.toList).2.2 = d at *
  go_enter Tryd.func57, Tryd.ntmps57
  go_wp2_with (refine (HI _).mono ?_; rintro e w1 ⟨rfl, g⟩)
  go_returns
  exact ⟨rfl, g⟩

theorem byte_eq (x : UInt8) (k : UInt8) : (x == k) = ((x.toNat : Int) == (k.toNat : Int)) := by
  rw [Bool.eq_iff_iff]
  simp
  constructor
  · intro h; rw [h]
  · intro h; exact UInt8.toNat_inj.1 (by omega)
theorem byte_ne48 (x : UInt8) : (some x != some 48) = !((x.toNat : Int) == 48) := by
  have := byte_eq x 48
  have e : ((48 : UInt8).toNat : Int) = 48 := rfl
  rw [e] at this
  rw [← this]
  rfl
set_option maxHeartbeats 800000 in
theorem isBehind_any (s : ByteArray) (p : Nat) (w : World) (hs : s.size ≤ 9223372036854775807) :
    Calls Tryd.prog 72 #[.string s, .int .i64 p] w fun e w' => e = .returned (.bool (behindOk p s.data.toList)) ∧ w = w' := by
  have HD := fun w => isDigits_any s w hs
  by_cases h0 : s.size = 0
  · have e := str_nil h0
    subst e
    go_enter Tryd.func72, Tryd.ntmps72
    go_wp2_with fail
    go_returns
    exact ⟨rfl, rfl⟩
  obtain ⟨hE, hE2⟩ := str_ne h0
  by_cases h9 : p < s.size
  · have hn : behindOk p s.data.toList = false := by
      unfold behindOk
      have : decide (s.data.toList.length ≤ p) = false := by rw [lst_len]; simp; omega
      rw [this]; simp
    have HN := Lib.hid hn
    have h9' : decide (s.size ≤ p) = false := by simp; omega
    clear hn
    go_enter Tryd.func72, Tryd.ntmps72
    go_wp2_with fail
    all_goals go_returns
    all_goals exact ⟨ret_bool' (by rw [HN.out]), rfl⟩
  have h9' : decide (s.size ≤ p) = true := by simp; omega
  cases hd : dgs s.data.toList with
  | false =>
    have hn : behindOk p s.data.toList = false := by unfold behindOk; rw [hd]; simp
    have HN := Lib.hid hn
    rw [hd] at HD
    clear hn hd
    go_enter Tryd.func72, Tryd.ntmps72
    go_wp2_with (refine (HD _).mono ?_; rintro e w1 ⟨rfl, rfl⟩)
    all_goals go_returns
    all_goals exact ⟨ret_bool' (by rw [HN.out]), rfl⟩
  | true =>
    rw [hd] at HD
    have hl : s.data.toList.getLast? = some (s[s.size - 1]'(by omega)) := by
      rw [List.getLast?_eq_getElem?, lst_len]; exact lst_get s _ (by omega)
    have c1 : (0 : Int) ≤ (s.size : Int) - 1 := by omega
    have c2 : (s.size : Int) - 1 < (s.size : Int) := by omega
    have c3 : ((s.size : Int) - 1).toNat = s.size - 1 := by omega
    have c4 : s.size - 1 < s.size := by omega
    have hn : behindOk p s.data.toList = !(((s[s.size - 1]'c4).toNat : Int) == 48) := by
      have hem : s.data.toList.isEmpty = false := by rw [← Lib.toList_data]; exact hE
      unfold behindOk
      rw [hem, lst_len, h9', hd, hl, byte_ne48]
      simp
    have HN := Lib.hid hn
    clear hn hd hl
    go_enter Tryd.func72, Tryd.ntmps72
    go_wp2_with (refine (HD _).mono ?_; rintro e w1 ⟨rfl, rfl⟩)
    all_goals go_returns
    all_goals exact ⟨ret_bool' (by rw [HN.out]; rfl), rfl⟩

/-! ReadParts. -/
def partsR (p : Nat) (s : ByteArray) : Ending := .returned (.tuple #[.int .i64 (if partsOk 9 p s.data.toList = true then partsV p s.data.toList else 0), .bool (partsOk 9 p s.data.toList)])
theorem partsR_no {p : Nat} {s : ByteArray} (h : partsOk 9 p s.data.toList = false) : Ending.returned (.tuple #[.int .i64 0, .bool false]) = partsR p s := by unfold partsR; rw [h]; rfl
theorem partsR_ok {p : Nat} {s : ByteArray} (h : partsOk 9 p s.data.toList = true) {v : Int} (hv : v = partsV p s.data.toList) : Ending.returned (.tuple #[.int .i64 v, .bool true]) = partsR p s := by unfold partsR; rw [h, hv]; rfl
theorem full_take_in (p : Nat) (B : List UInt8) (a : Int) (k : Nat) (h : k < B.length) : valF a ((fullD p B).take (k + 1)) = 10 * valF a ((fullD p B).take k) + ((B[k].toNat : Int) - 48) := by
  have e : (fullD p B).take (k + 1) = (fullD p B).take k ++ [B[k]] := by
    unfold fullD
    rw [List.take_succ_eq_append_getElem (by simp; omega), List.getElem_append_left h]
  rw [e, valF_snoc]
theorem full_take_out (p : Nat) (B : List UInt8) (a : Int) (k : Nat) (hk : k < p) (h : B.length ≤ k) : valF a ((fullD p B).take (k + 1)) = 10 * valF a ((fullD p B).take k) := by
  have e : (fullD p B).take (k + 1) = (fullD p B).take k ++ [48] := by
    unfold fullD
    rw [List.take_succ_eq_append_getElem (by simp; omega), List.getElem_append_right h]
    simp
  rw [e, valF_snoc, show ((48 : UInt8).toNat : Int) = 48 from rfl]
  omega
theorem full_bd (p : Nat) (B : List UInt8) (a : Int) (k : Nat) (hp : p ≤ 3) (hk : k < p) (hB : dgs B = true) (a0 : 0 ≤ a) (a1 : a < 1000000000) : 0 ≤ valF a ((fullD p B).take k) ∧ valF a ((fullD p B).take k) ≤ 1000000000000 := by
  have hd := dgs_take_of _ k (fullD_dgs (p := p) hB)
  obtain ⟨h1, h2⟩ := valF_bd hd a0
  have hl : ((fullD p B).take k).length ≤ 3 := by have := List.length_take_le k (fullD p B); omega
  have hp1 := pow10_mono hl
  have hp0 : (0 : Int) ≤ 10 ^ ((fullD p B).take k).length := Int.le_of_lt (Int.pow_pos (by decide))
  have h3 : (a + 1) * 10 ^ ((fullD p B).take k).length ≤ 1000000000 * 10 ^ 3 := Int.mul_le_mul (by omega) hp1 hp0 (by decide)
  exact ⟨Int.le_trans (Int.mul_nonneg a0 hp0) h1, by omega⟩
set_option maxHeartbeats 1600000 in
theorem readParts_any (s : ByteArray) (p : Nat) (w : World) (hs : s.size ≤ 4611686018427387904) (hp : p ≤ 3) :
    Calls Tryd.prog 56 #[.string s, .int .i64 p] w fun e w' => e = partsR p s ∧ Gr w w' := by
  have HC := fun w => cut_any s 46 w hs
  unfold cutR at HC
  have hsp := cut1_spec 46 s.data.toList
  have hl := lst_len s
  have hlen : (cut1 46 s.data.toList).1.length ≤ s.size ∧ (cut1 46 s.data.toList).2.1.length ≤ s.size := by
    rcases hsp with ⟨hc, _⟩ | ⟨a, b, hab, hno, hc⟩
    · rw [hc]; exact ⟨by rw [← hl]; exact Nat.le_refl _, Nat.zero_le _⟩
    · rw [hc]
      have := congrArg List.length hab
      rw [hl] at this
      simp at this
      exact ⟨show a.length ≤ _ by omega, show b.length ≤ _ by omega⟩
  have hnil : (cut1 46 s.data.toList).2.2 = false → (cut1 46 s.data.toList).2.1 = [] := by
    rcases hsp with ⟨hc, _⟩ | ⟨a, b, hab, hno, hc⟩
    · rw [hc]; intro _; rfl
    · rw [hc]; intro h; cases h
  have hok : partsOk 9 p s.data.toList = (numOk 9 (cut1 46 s.data.toList).1 && (!(cut1 46 s.data.toList).2.2 || behindOk p (cut1 46 s.data.toList).2.1)) := rfl
  have hvv : partsV p s.data.toList = valF (val (cut1 46 s.data.toList).1) (fullD p (cut1 46 s.data.toList).2.1) := rfl
  generalize (cut1 46 s.data.toList).1 = A at *
  generalize (cut1 46 s.data.toList).2.1 = B at *
  generalize (cut1 46 s.data.toList).2.2 = D at *
  have HN := fun w => number_any (bs A) w (by rw [bs_size]; omega)
  have HB := fun w => isBehind_any (bs B) p w (by rw [bs_size]; omega)
  unfold numR at HN
  rw [bs_list] at HN HB
  have HOK := Lib.hid hok
  have HVV := Lib.hid hvv
  clear hok hvv hsp hl
  cases hA : numOk 9 A with
  | false =>
    have HK := Lib.hid (show partsOk 9 p s.data.toList = false by rw [HOK.out, hA]; rfl)
    rw [numV_no hA, hA] at HN
    clear hA hnil
    go_enter Tryd.func56, Tryd.ntmps56
    go_wp2_with (first | (refine (HC _).mono ?_; rintro e w1 ⟨rfl, g⟩) | (refine (HN _).mono ?_; rintro e w2 ⟨rfl, rfl⟩))
    go_returns
    exact ⟨partsR_no HK.out, g⟩
  | true =>
    rw [numV_ok hA, hA] at HN
    have hbd := numOk_bd hA
    have hbd1 : val A < 1000000000 := by have := hbd.2; simpa using this
    have hbd0 := hbd.1
    clear hbd
    cases D with
    | true =>
      cases hB : behindOk p B with
      | false =>
        have HK := Lib.hid (show partsOk 9 p s.data.toList = false by rw [HOK.out, hA, hB]; rfl)
        rw [hB] at HB
        clear hA hB hnil
        go_enter Tryd.func56, Tryd.ntmps56
        go_wp2_with (first | (refine (HC _).mono ?_; rintro e w1 ⟨rfl, g⟩) | (refine (HN _).mono ?_; rintro e w2 ⟨rfl, rfl⟩) | (refine (HB _).mono ?_; rintro e w2 ⟨rfl, rfl⟩))
        go_returns
        exact ⟨partsR_no HK.out, g⟩
      | true =>
        have HK := Lib.hid (show partsOk 9 p s.data.toList = true by rw [HOK.out, hA, hB]; rfl)
        obtain ⟨_, b2, b3, _⟩ := behindOk_iff.1 hB
        have HV := Lib.hid (fun k (hk : k < p) => full_bd p B (val A) k hp hk b3 hbd0 hbd1)
        have HS := Lib.hid (fun k (hk : k < B.length) => show 48 ≤ (((bs B)[k]'(by rw [bs_size]; exact hk)).toNat : Int) ∧ (((bs B)[k]'(by rw [bs_size]; exact hk)).toNat : Int) ≤ 57 ∧ _ from ⟨(isDg_iff.1 (List.all_eq_true.1 b3 _ (List.getElem_mem hk))).1, (isDg_iff.1 (List.all_eq_true.1 b3 _ (List.getElem_mem hk))).2, full_take_in p B (val A) k hk⟩)
        have HZ := Lib.hid (fun k (hk : k < p) (h : B.length ≤ k) => full_take_out p B (val A) k hk h)
        have HF := Lib.hid (fullD_len b2)
        have HVW := HVV
        rw [hB] at HB
        clear hA hB hnil HVV
        go_enter Tryd.func56, Tryd.ntmps56
        go_wp2_with (first | (refine (HC _).mono ?_; rintro e w1 ⟨rfl, g⟩) | (refine (HN _).mono ?_; rintro e w2 ⟨rfl, rfl⟩) | (refine (HB _).mono ?_; rintro e w2 ⟨rfl, rfl⟩))
        go_loop [9, 35] (fun n i => ∃ k : Nat, k ≤ p ∧ i = .int .i64 k ∧ n = .int .i64 (valF (val A) ((fullD p B).take k))) (fun _ i => p - (intOf i).toNat)
        case atStart => exact ⟨0, Nat.zero_le _, rfl, rfl⟩
        case round =>
          obtain ⟨k, hk, rfl, rfl⟩ := hrel
          by_cases hlt : k < p
          · obtain ⟨v1, v2⟩ := HV.out k hlt
            by_cases hb : k < B.length
            · obtain ⟨c1, c2, c3⟩ := HS.out k hb
              have hb' : k < (bs B).size := by rw [bs_size]; exact hb
              have hsz : decide (k < (bs B).size) = true := by simpa using hb'
              have C3 := Lib.hid c3
              clear c3
              go_wp2
              go_round
              case rel => exact ⟨k + 1, by omega, by go_num, by rw [C3.out, Int.mul_comm]; rfl⟩
              case measure => simp [intOf]; omega
            · have hsz : decide (k < (bs B).size) = false := by rw [bs_size]; simpa using hb
              have C3 := Lib.hid (HZ.out k hlt (by omega))
              go_wp2
              go_round
              case rel => exact ⟨k + 1, by omega, by go_num, by rw [C3.out, Int.mul_comm]⟩
              case measure => simp [intOf]; omega
          · obtain rfl : k = p := by omega
            go_wp2
            go_returns
            refine ⟨partsR_ok HK.out ?_, g⟩
            rw [List.take_of_length_le (by rw [HF.out]; exact Nat.le_refl _)]
            rw [HVW.out]
    | false =>
      obtain rfl := hnil rfl
      have HK := Lib.hid (show partsOk 9 p s.data.toList = true by rw [HOK.out, hA]; rfl)
      have b3 : dgs [] = true := rfl
      have HV := Lib.hid (fun k (hk : k < p) => full_bd p [] (val A) k hp hk b3 hbd0 hbd1)
      have HZ := Lib.hid (fun k (hk : k < p) (h : ([] : List UInt8).length ≤ k) => full_take_out p [] (val A) k hk h)
      have HF := Lib.hid (fullD_len (p := p) (b := []) (Nat.zero_le _))
      have HVW := HVV
      clear hA hnil HVV b3
      go_enter Tryd.func56, Tryd.ntmps56
      go_wp2_with (first | (refine (HC _).mono ?_; rintro e w1 ⟨rfl, g⟩) | (refine (HN _).mono ?_; rintro e w2 ⟨rfl, rfl⟩))
      go_loop [9, 35] (fun n i => ∃ k : Nat, k ≤ p ∧ i = .int .i64 k ∧ n = .int .i64 (valF (val A) ((fullD p []).take k))) (fun _ i => p - (intOf i).toNat)
      case atStart => exact ⟨0, Nat.zero_le _, rfl, rfl⟩
      case round =>
        obtain ⟨k, hk, rfl, rfl⟩ := hrel
        by_cases hlt : k < p
        · obtain ⟨v1, v2⟩ := HV.out k hlt
          have C3 := Lib.hid (HZ.out k hlt (Nat.zero_le _))
          go_wp2
          go_round
          case rel => exact ⟨k + 1, by omega, by go_num, by rw [C3.out, Int.mul_comm]⟩
          case measure => simp [intOf]; omega
        · obtain rfl : k = p := by omega
          go_wp2
          go_returns
          refine ⟨partsR_ok HK.out ?_, g⟩
          rw [List.take_of_length_le (by rw [HF.out]; exact Nat.le_refl _), HVW.out]
end Go.Proofs.YtkllhockcnokeaaDoor
