/- The reference's decimals in texts: Decimal. -/
import Derived.Test.YtfeeolfekfkdiaaDoorRefN
import Derived.Test.YtfeeolfekfkdiaaDoorTimS
namespace Go.Proofs.YtfeeolfekfkdiaaDoor
open Go.RowKit Go.Lib

theorem decM_no {m p : Nat} {s : ByteArray} (h : partsOk m p s.data.toList = false) : decM m p s = Ending.returned (.tuple #[.int .i64 0, .bool false]) := by unfold decM; rw [h]; rfl
theorem decM_ok {m p : Nat} {s : ByteArray} (h : partsOk m p s.data.toList = true) : decM m p s = Ending.returned (.tuple #[.int .i64 (partsV p s.data.toList), .bool true]) := by unfold decM; rw [h]; rfl
theorem repeatL_zeros (c : Nat) : Lib.repeatL [48] c = List.replicate c 48 := by
  induction c with
  | zero => rfl
  | succ c ih => show [48] ++ Lib.repeatL [48] c = _; rw [ih, List.replicate_succ]; rfl
theorem repeat_any (c : Nat) (w : World) (hc : c ≤ 1000) :
    Calls Tryd.prog 81 #[.string ⟨#[48]⟩, .int .i64 c] w fun e w' => e = .returned (.string (bs (List.replicate c 48))) ∧ Bl w w' := by
  refine (Tryd.strings_Repeat ⟨#[48]⟩ c w (by omega) (by show 1 * c ≤ _; omega)).mono ?_
  rintro e w' ⟨rfl, h⟩
  exact ⟨by rw [← repeatL_zeros]; rfl, h⟩
theorem bs_get (l : List UInt8) (k : Nat) (h : k < l.length) : (bs l)[k]'(by rw [bs_size]; exact h) = l[k] := rfl
theorem bs_last (B : List UInt8) (c : UInt8) (c4 : (bs B).size - 1 < (bs B).size) (h : B.getLast? = some c) : (bs B)[(bs B).size - 1]'c4 = c := by
  have h1 := lst_get (bs B) _ c4
  rw [bs_list] at h1
  have e : B[(bs B).size - 1]? = B.getLast? := by rw [List.getLast?_eq_getElem?, bs_size]
  rw [e, h] at h1
  exact (Option.some.inj h1).symm
set_option maxRecDepth 100000 in
set_option maxHeartbeats 3200000 in
theorem decimalR (s : ByteArray) (m p : Nat) (w : World) (hs : s.size ≤ 4611686018427387904) (hm : m ≤ 9) (hp : p ≤ 3) :
    Calls Tryd.prog 49 #[.string s, .int .i64 m, .int .i64 p] w fun e w' => e = decM m p s ∧ Bl w w' := by
  have HC := fun w' (g : Bl w w') => show Calls Tryd.prog 55 #[.string s, .string ⟨#[46]⟩] w' fun e w'' => e = cutR s 46 ∧ Bl w w'' from (cut_any s 46 w' hs).mono fun e w'' ⟨h1, h2⟩ => ⟨h1, g.trans h2.bl⟩
  unfold cutR at HC
  have hsp := cut1_spec 46 s.data.toList
  have hl := lst_len s
  have hlen : (cut1 46 s.data.toList).1.length ≤ s.size ∧ (cut1 46 s.data.toList).2.1.length ≤ s.size := by
    rcases hsp with ⟨hc, _⟩ | ⟨a, b, hab, hno, hc⟩
    · rw [hc]; exact ⟨by rw [← hl]; exact Nat.le_refl _, Nat.zero_le _⟩
    · rw [hc]
      have := congrArg List.length hab
      rw [hl] at this
      simp at this
      exact ⟨show a.length ≤ _ by omega, show b.length ≤ _ by omega⟩
  have hnil : (cut1 46 s.data.toList).2.2 = false → (cut1 46 s.data.toList).2.1 = [] := by
    rcases hsp with ⟨hc, _⟩ | ⟨a, b, hab, hno, hc⟩
    · rw [hc]; intro _; rfl
    · rw [hc]; intro h; cases h
  have hok : partsOk m p s.data.toList = (numOk m (cut1 46 s.data.toList).1 && (!(cut1 46 s.data.toList).2.2 || behindOk p (cut1 46 s.data.toList).2.1)) := rfl
  have hvv : partsV p s.data.toList = valF (val (cut1 46 s.data.toList).1) (fullD p (cut1 46 s.data.toList).2.1) := rfl
  generalize (cut1 46 s.data.toList).1 = A at *
  generalize (cut1 46 s.data.toList).2.1 = B at *
  generalize (cut1 46 s.data.toList).2.2 = D at *
  have HN := fun w' (g : Bl w w') => show Calls Tryd.prog 48 #[.string (bs A), .int .i64 m] w' fun e w'' => e = .returned (.tuple #[.int .i64 (if numOk m A = true then val A else 0), .bool (numOk m A)]) ∧ Bl w w'' from
    (numberR (bs A) m w' (by rw [bs_size]; omega) hm).mono fun e w'' ⟨h1, h2⟩ => ⟨by rw [h1]; unfold numM; rw [bs_list], g.trans h2⟩
  have g0 := Bl.refl w
  have hsB := bs_size B
  cases hA : numOk m A with
  | false =>
    have HE := Lib.hid (decM_no (m := m) (p := p) (s := s) (by rw [hok, hA]; rfl))
    rw [hA] at HN
    simp only [Bool.false_eq_true, if_false] at HN
    replace HN := Lib.hid HN
    replace HC := Lib.hid HC
    clear hA hnil hok hvv hsp hl hsB hlen
    go_enter Tryd.func49, Tryd.ntmps49
    go_wp2_with (first | (go_at_call 55; refine (HC.out _ (by assumption)).mono ?_; rintro e w1 ⟨rfl, g1⟩) | (go_at_call 48; refine (HN.out _ (by assumption)).mono ?_; rintro e w2 ⟨rfl, g2⟩))
    go_returns
    exact ⟨HE.out.symm, by assumption⟩
  | true =>
    rw [hA] at HN
    simp only [if_true] at HN
    have hbd := numOk_bd hA
    have hbd1 : val A < 1000000000 := by
      have := Int.lt_of_lt_of_le hbd.2 (pow10_mono hm)
      simpa using this
    have hbd0 := hbd.1
    replace HN := Lib.hid HN
    replace HC := Lib.hid HC
    clear hbd
    -- what bars the rest
    have bar : (D = true ∧ B = []) ∨ (D = true ∧ B ≠ [] ∧ p < B.length) ∨ (D = true ∧ B ≠ [] ∧ B.length ≤ p ∧ B.getLast? = some 48) ∨ (B.length ≤ p ∧ (D = false ∧ B = [] ∨ D = true ∧ B ≠ [] ∧ B.getLast? ≠ some 48)) := by
      cases D with
      | false => exact Or.inr (Or.inr (Or.inr ⟨by rw [hnil rfl]; exact Nat.zero_le _, Or.inl ⟨rfl, hnil rfl⟩⟩))
      | true =>
        by_cases b0 : B = []
        · exact Or.inl ⟨rfl, b0⟩
        by_cases b1 : p < B.length
        · exact Or.inr (Or.inl ⟨rfl, b0, b1⟩)
        by_cases b2 : B.getLast? = some 48
        · exact Or.inr (Or.inr (Or.inl ⟨rfl, b0, by omega, b2⟩))
        · exact Or.inr (Or.inr (Or.inr ⟨by omega, Or.inr ⟨rfl, b0, b2⟩⟩))
    clear hnil
    rcases bar with ⟨rfl, rfl⟩ | ⟨rfl, b0, b1⟩ | ⟨rfl, b0, b1, b2⟩ | ⟨b1, b2⟩
    · have HE := Lib.hid (decM_no (m := m) (p := p) (s := s) (by rw [hok, hA]; rfl))
      have e1 : bs [] = ⟨#[]⟩ := rfl
      rw [e1] at HC
      clear hA hok hvv hsp hl hsB hlen e1
      go_enter Tryd.func49, Tryd.ntmps49
      go_wp2_with (first | (go_at_call 55; refine (HC.out _ (by assumption)).mono ?_; rintro e w1 ⟨rfl, g1⟩) | (go_at_call 48; refine (HN.out _ (by assumption)).mono ?_; rintro e w2 ⟨rfl, g2⟩))
      go_returns
      exact ⟨HE.out.symm, by assumption⟩
    · have HE := Lib.hid (decM_no (m := m) (p := p) (s := s) (by
        rw [hok, hA]
        have : behindOk p B = false := by rw [Bool.eq_false_iff]; intro h; have := (behindOk_iff.1 h).2.1; omega
        rw [this]; rfl))
      obtain ⟨hE, hE2⟩ := str_ne (s := bs B) (by rw [bs_size]; omega)
      have hsz : decide (p < (bs B).size) = true := by rw [bs_size]; simpa using b1
      clear hA hok hvv hsp hl hsB hlen b0 b1
      generalize bs B = T at *
      go_enter Tryd.func49, Tryd.ntmps49
      go_wp2_with (first | (go_at_call 55; refine (HC.out _ (by assumption)).mono ?_; rintro e w1 ⟨rfl, g1⟩) | (go_at_call 48; refine (HN.out _ (by assumption)).mono ?_; rintro e w2 ⟨rfl, g2⟩))
      go_returns
      exact ⟨HE.out.symm, by assumption⟩
    · have HE := Lib.hid (decM_no (m := m) (p := p) (s := s) (by
        rw [hok, hA]
        have : behindOk p B = false := by rw [Bool.eq_false_iff]; intro h; exact (behindOk_iff.1 h).2.2.2 b2
        rw [this]; rfl))
      have hpos : 0 < B.length := List.length_pos_iff.2 b0
      obtain ⟨hE, hE2⟩ := str_ne (s := bs B) (by rw [bs_size]; omega)
      have hsz : decide (p < (bs B).size) = false := by rw [bs_size]; simp; omega
      have c1 : (0 : Int) ≤ ((bs B).size : Int) - 1 := by omega
      have c2 : ((bs B).size : Int) - 1 < ((bs B).size : Int) := by omega
      have c3 : (((bs B).size : Int) - 1).toNat = (bs B).size - 1 := by omega
      have c4 : (bs B).size - 1 < (bs B).size := by omega
      have hlast : (((bs B)[(bs B).size - 1]'c4).toNat : Int) = 48 := by rw [bs_last B 48 c4 b2]; rfl
      have hT3 : (bs B).size ≤ 3 := by omega
      have hl48 : ((((bs B)[(bs B).size - 1]'c4).toNat : Int) == 48) = true := by simpa using hlast
      clear hA hok hvv hsp hl hsB hlen b0 b1 b2 hlast hpos
      generalize bs B = T at *
      go_enter Tryd.func49, Tryd.ntmps49
      go_wp2_with (first | (go_at_call 55; refine (HC.out _ (by assumption)).mono ?_; rintro e w1 ⟨rfl, g1⟩) | (go_at_call 48; refine (HN.out _ (by assumption)).mono ?_; rintro e w2 ⟨rfl, g2⟩))
      go_returns
      exact ⟨HE.out.symm, by assumption⟩
    · have hfl := fullD_len b1
      have HFL := Lib.hid hfl
      have hbeh : behindOk p B = true → dgs B = true := fun h => (behindOk_iff.1 h).2.2.1
      have hdB : dgs (fullD p B) = dgs B := by
        unfold fullD
        cases h : dgs B with
        | true => exact dgs_app.2 ⟨h, zeros_dgs _⟩
        | false => rw [Bool.eq_false_iff]; intro hh; rw [(dgs_app.1 hh).1] at h; cases h
      have HF := Lib.hid (fun (h : dgs (fullD p B) = false) => (decM_no (m := m) (p := p) (s := s) (by
        rw [hdB] at h
        rw [hok, hA]
        rcases b2 with ⟨rfl, rfl⟩ | ⟨rfl, c0, c1⟩
        · cases h
        · have : behindOk p B = false := by rw [Bool.eq_false_iff]; intro hh; rw [hbeh hh] at h; cases h
          rw [this]; rfl)))
      have HT := Lib.hid (fun (h : dgs (fullD p B) = true) => show decM m p s = Ending.returned (.tuple #[.int .i64 (valF (val A) (fullD p B)), .bool true]) by
        rw [hdB] at h
        rw [decM_ok (by
          rw [hok, hA]
          rcases b2 with ⟨rfl, rfl⟩ | ⟨rfl, c0, c1⟩
          · rfl
          · rw [behindOk_iff.2 ⟨c0, b1, h, c1⟩]; rfl), hvv])
      have hcat : bs B ++ bs (List.replicate (p - B.length) 48) = bs (fullD p B) := bs_app _ _
      have hsZ : (bs (List.replicate (p - B.length) 48)).size ≤ 3 := by rw [bs_size]; simp; omega
      have hsF : (bs (fullD p B)).size = p := by rw [bs_size, hfl]
      have hT3 : (bs B).size ≤ 3 := by omega
      have HRP := Lib.hid (fun w' (g : Bl w w') => show Calls Tryd.prog 81 #[.string ⟨#[48]⟩, .int .i64 ((p : Int) - ((bs B).size : Int))] w' fun e w'' => e = .returned (.string (bs (List.replicate (p - B.length) 48))) ∧ Bl w w'' from by
        have := repeat_any (p - B.length) w' (by omega)
        rw [show (((p - B.length : Nat)) : Int) = (p : Int) - ((bs B).size : Int) by rw [hsB]; omega] at this
        exact this.mono fun e w'' ⟨h1, h2⟩ => ⟨h1, g.trans h2⟩)
      have HV := Lib.hid (fun k (hk : k < p) (hd : dgs ((fullD p B).take k) = true) => show 0 ≤ valF (val A) ((fullD p B).take k) ∧ valF (val A) ((fullD p B).take k) ≤ 1000000000000 from by
        obtain ⟨h1, h2⟩ := valF_bd hd hbd0
        have hl3 : ((fullD p B).take k).length ≤ 3 := by have := List.length_take_le k (fullD p B); omega
        have hp1 := pow10_mono hl3
        have hp0 : (0 : Int) ≤ 10 ^ ((fullD p B).take k).length := Int.le_of_lt (Int.pow_pos (by decide))
        have h3 : (val A + 1) * 10 ^ ((fullD p B).take k).length ≤ 1000000000 * 10 ^ 3 := Int.mul_le_mul (by omega) hp1 hp0 (by decide)
        exact ⟨Int.le_trans (Int.mul_nonneg hbd0 hp0) h1, by omega⟩)
      have HS0 := Lib.hid (fun k (hk : k < (bs (fullD p B)).size) => show (fullD p B).take (k + 1) = (fullD p B).take k ++ [(bs (fullD p B))[k]] from by
        have := lst_take (bs (fullD p B)) k hk
        rwa [bs_list] at this)
      have HX := Lib.hid (fun k (hk : k < (bs (fullD p B)).size) (hc : isDg (bs (fullD p B))[k] = false) => show dgs (fullD p B) = false from by
        have := dgs_no_at (bs (fullD p B)) k hk hc
        rwa [bs_list] at this)
      generalize hFF : fullD p B = F at *
      clear hok hvv hsp hl hlen hA hbeh hdB hfl hFF
      rcases b2 with ⟨rfl, rfl⟩ | ⟨rfl, c0, c1⟩
      · rw [bs_app] at hcat
        simp only [List.nil_append, List.length_nil, Nat.sub_zero] at hcat hsZ HRP
        rw [hcat] at hsZ HRP
        have hcc : bs [] ++ bs F = bs F := by rw [bs_app]; rfl
        have hadd : ((bs []).size : Int) + (p : Int) = (p : Int) := by rw [bs_size]; simp
        clear b1 hcat hsB
        go_enter Tryd.func49, Tryd.ntmps49
        go_wp2_with (first | (go_at_call 55; refine (HC.out _ (by assumption)).mono ?_; rintro e w1 ⟨rfl, g1⟩) | (go_at_call 48; refine (HN.out _ (by assumption)).mono ?_; rintro e w2 ⟨rfl, g2⟩) | (go_at_call 81; refine (HRP.out _ (by assumption)).mono ?_; rintro e w3 ⟨rfl, g3⟩))
        go_loop [11, 58] (fun n i => ∃ k : Nat, k ≤ p ∧ i = .int .i64 k ∧ n = .int .i64 (valF (val A) (F.take k)) ∧ dgs (F.take k) = true) (fun _ i => p - (intOf i).toNat)
        case atStart => exact ⟨0, Nat.zero_le _, rfl, rfl, rfl⟩
        case round =>
          obtain ⟨k, hk, rfl, rfl, hd⟩ := hrel
          have HK := Lib.hid hd
          clear hd
          by_cases hlt : k < p
          · have hb' : k < (bs F).size := by omega
            obtain ⟨v1, v2⟩ := HV.out k hlt HK.out
            have HS := Lib.hid (HS0.out k (by omega))
            go_wp2
            · go_returns
              refine ⟨?_, by assumption⟩
              have h1 : ((bs F)[k].toNat : Int) < (48 : Int) ∨ (57 : Int) < ((bs F)[k].toNat : Int) := by assumption
              exact (HF.out (HX.out k hb' (by rw [Bool.eq_false_iff]; intro hh; have := isDg_iff.1 hh; omega))).symm
            · go_round
              case rel =>
                have h1 : (48 : Int) ≤ ((bs F)[k].toNat : Int) ∧ ((bs F)[k].toNat : Int) ≤ (57 : Int) := by assumption
                refine ⟨k + 1, by omega, by go_num, ?_, ?_⟩
                · rw [HS.out, valF_snoc]
                · rw [HS.out]; exact dgs_app.2 ⟨HK.out, dgs_cons.2 ⟨isDg_iff.2 h1, rfl⟩⟩
              case measure => simp [intOf]; omega
            · go_returns
              refine ⟨?_, by assumption⟩
              have h1 : ((bs F)[k].toNat : Int) < (48 : Int) := by assumption
              exact (HF.out (HX.out k hb' (by rw [Bool.eq_false_iff]; intro hh; have := isDg_iff.1 hh; omega))).symm
          · obtain rfl : k = p := by omega
            have hall : dgs F = true := by
              have := HK.out
              rwa [List.take_of_length_le (by rw [HFL.out]; exact Nat.le_refl _)] at this
            have HE := Lib.hid (HT.out hall)
            have HFT := Lib.hid (show F.take k = F from List.take_of_length_le (by rw [HFL.out]; exact Nat.le_refl _))
            clear hall
            go_wp2
            go_returns
            refine ⟨?_, by assumption⟩
            rw [HE.out, HFT.out]; rfl
      · have hpos : 0 < B.length := List.length_pos_iff.2 c0
        obtain ⟨hE, hE2⟩ := str_ne (s := bs B) (by omega)
        have hsz : decide (p < (bs B).size) = false := by simp; omega
        have d1 : (0 : Int) ≤ ((bs B).size : Int) - 1 := by omega
        have d2 : ((bs B).size : Int) - 1 < ((bs B).size : Int) := by omega
        have d3 : (((bs B).size : Int) - 1).toNat = (bs B).size - 1 := by omega
        have d4 : (bs B).size - 1 < (bs B).size := by omega
        have hl48 : ((((bs B)[(bs B).size - 1]'d4).toNat : Int) == 48) = false := by
          rw [beq_eq_false_iff_ne]
          intro hh
          cases hg : B.getLast? with
          | none => exact c0 (List.getLast?_eq_none_iff.1 hg)
          | some c =>
            rw [bs_last B c d4 hg] at hh
            exact c1 (by rw [hg]; exact congrArg some (UInt8.toNat_inj.1 (by simpa using (by omega : c.toNat = 48))))
        clear c0 c1 b1 hpos hsB
        go_enter Tryd.func49, Tryd.ntmps49
        go_wp2_with (first | (go_at_call 55; refine (HC.out _ (by assumption)).mono ?_; rintro e w1 ⟨rfl, g1⟩) | (go_at_call 48; refine (HN.out _ (by assumption)).mono ?_; rintro e w2 ⟨rfl, g2⟩) | (go_at_call 81; refine (HRP.out _ (by assumption)).mono ?_; rintro e w3 ⟨rfl, g3⟩))
        go_loop [11, 58] (fun n i => ∃ k : Nat, k ≤ p ∧ i = .int .i64 k ∧ n = .int .i64 (valF (val A) (F.take k)) ∧ dgs (F.take k) = true) (fun _ i => p - (intOf i).toNat)
        case atStart => exact ⟨0, Nat.zero_le _, rfl, rfl, rfl⟩
        case round =>
          obtain ⟨k, hk, rfl, rfl, hd⟩ := hrel
          have HK := Lib.hid hd
          clear hd
          by_cases hlt : k < p
          · have hb' : k < (bs F).size := by omega
            obtain ⟨v1, v2⟩ := HV.out k hlt HK.out
            have HS := Lib.hid (HS0.out k (by omega))
            go_wp2
            · go_returns
              refine ⟨?_, by assumption⟩
              have h1 : ((bs F)[k].toNat : Int) < (48 : Int) ∨ (57 : Int) < ((bs F)[k].toNat : Int) := by assumption
              exact (HF.out (HX.out k hb' (by rw [Bool.eq_false_iff]; intro hh; have := isDg_iff.1 hh; omega))).symm
            · go_round
              case rel =>
                have h1 : (48 : Int) ≤ ((bs F)[k].toNat : Int) ∧ ((bs F)[k].toNat : Int) ≤ (57 : Int) := by assumption
                refine ⟨k + 1, by omega, by go_num, ?_, ?_⟩
                · rw [HS.out, valF_snoc]
                · rw [HS.out]; exact dgs_app.2 ⟨HK.out, dgs_cons.2 ⟨isDg_iff.2 h1, rfl⟩⟩
              case measure => simp [intOf]; omega
            · go_returns
              refine ⟨?_, by assumption⟩
              have h1 : ((bs F)[k].toNat : Int) < (48 : Int) := by assumption
              exact (HF.out (HX.out k hb' (by rw [Bool.eq_false_iff]; intro hh; have := isDg_iff.1 hh; omega))).symm
          · obtain rfl : k = p := by omega
            have hall : dgs F = true := by
              have := HK.out
              rwa [List.take_of_length_le (by rw [HFL.out]; exact Nat.le_refl _)] at this
            have HE := Lib.hid (HT.out hall)
            have HFT := Lib.hid (show F.take k = F from List.take_of_length_le (by rw [HFL.out]; exact Nat.le_refl _))
            clear hall
            go_wp2
            go_returns
            refine ⟨?_, by assumption⟩
            rw [HE.out, HFT.out]; rfl
end Go.Proofs.YtfeeolfekfkdiaaDoor
