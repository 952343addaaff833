/- Cycle and Check of the reference. -/
import Derived.Test.YtkllhockcnokeaaDoorEfD
import Derived.Test.YtkllhockcnokeaaDoorWithI
namespace Go.Proofs.YtkllhockcnokeaaDoor
open Go.RowKit Go.Sort

/-- A number is within these bounds. -/
def inR (lo hi n : Int) : Bool := decide (lo ≤ n) && decide (n ≤ hi)
theorem inR_yes {lo hi n : Int} (h : lo ≤ n ∧ n ≤ hi) : inR lo hi n = true := by unfold inR; simpa using h
theorem inR_no {lo hi n : Int} (h : ¬ (lo ≤ n ∧ n ≤ hi)) : inR lo hi n = false := by unfold inR; rw [Bool.and_eq_false_iff, decide_eq_false_iff_not, decide_eq_false_iff_not]; omega
theorem within_at (n lo hi : Int) (v : Bool) (w : World) (h : inR lo hi n = v) :
    Calls Tryd.prog 26 #[.int .i64 n, .int .i64 lo, .int .i64 hi] w fun e w' => e = .returned (.bool v) ∧ w = w' := by
  subst h; exact within_any n lo hi w
theorem isLevR_at (n : Int) (c : Bool) (w : World) (h : isLev n = c) :
    Calls Tryd.prog 27 #[.int .i64 n] w fun e w' => e = .returned (.bool c) ∧ w = w' := by
  subst h; exact isLevel_ref n w
/-- Whether a form is that of steps, and whether it is that of squares, as a walk asks it. -/
def IsF (n : Int) (a b : Bool) : Prop := ((n == 7) = a ∧ (n != 7) = !a) ∧ (n == 4) = b ∧ (n != 4) = !b
theorem isF_7 {n : Int} (h : n = 7) : IsF n true false := by subst h; exact ⟨⟨rfl, rfl⟩, rfl, rfl⟩
theorem isF_4 {n : Int} (h : n = 4) : IsF n false true := by subst h; exact ⟨⟨rfl, rfl⟩, rfl, rfl⟩
theorem isF_x {n : Int} (h : n ≠ 7) (h4 : n ≠ 4) : IsF n false false := ⟨⟨by simpa using h, by simpa using h⟩, by simpa using h4, by simpa using h4⟩
set_option maxRecDepth 100000 in
set_option maxHeartbeats 1600000 in
/-- Cycle of the reference, of an effect whose steps are within their bounds, or that has none. -/
theorem cycleR_any (e : Eff) (v : Value) (w : World) (hv : StpVal w v e.st) (hs : e.frm = 7 → e.st.all stpOk = true ∧ e.st.length ≤ 50) :
    Calls Tryd.prog 21 #[effV e v] w fun r w' => r = .returned (.int .i64 (cycE e)) ∧ Bl w w' := by
  obtain ⟨o, cap, rfl, _, hp⟩ := hv
  have HP := Lib.hid hp
  have bA : Hid (∀ W, W = w.alloc (.cells #[.int .i64 e.frm, .int .i64 e.lo, .int .i64 e.hi, .int .i64 e.cyc, .int .i64 e.wid, .int .i64 e.spr, .bool e.bk, .bool e.rl, .slice o e.st.length cap] 24) → Bl w W ∧ EffAt W w.heap.size e (.slice o e.st.length cap)) :=
    fun W h => by subst h; exact ⟨(Bl.refl w).alloc _, EffAt.new _ _ _ _⟩
  clear hp
  unfold effV
  by_cases h7 : e.frm = 7
  · have t7 : (e.frm != 7) = false := by simp [h7]
    have HS := Lib.hid (hs h7)
    have HR : Hid (cycE e = sumS e.st) := by show _ = _; unfold cycE; rw [if_pos h7]
    clear hs h7
    obtain ⟨W, hW⟩ : ∃ W, W = w.alloc (.cells #[.int .i64 e.frm, .int .i64 e.lo, .int .i64 e.hi, .int .i64 e.cyc, .int .i64 e.wid, .int .i64 e.spr, .bool e.bk, .bool e.rl, .slice o e.st.length cap] 24) := ⟨_, rfl⟩
    obtain ⟨bW, hA⟩ := bA.out W hW
    have HA := Lib.hid hA
    obtain ⟨c0, c1, c2, c3, c4, c5, c6, c7, c8⟩ := hA
    go_enter Tryd.func21, Tryd.ntmps21
    go_wp2_with fail
    rw [← hW]
    clear hW bA
    obtain ⟨w1, hw1⟩ : ∃ w1, w1 = W := ⟨_, rfl⟩
    have m1 : Bl W w1 := by rw [hw1]; exact Bl.refl _
    rw [← hw1]
    clear hw1
    go_loopw [3, 14] (fun vs vi wr => ∃ k : Nat, k ≤ e.st.length ∧ vi = .int .i64 k ∧ vs = .int .i64 (sumS (e.st.take k)) ∧ Hid (Bl w1 wr)) (fun _ vi _ => e.st.length - (intOf vi).toNat)
    case atStart => exact ⟨0, Nat.zero_le _, rfl, rfl, Bl.refl _⟩
    case round =>
      obtain ⟨k, hk, rfl, rfl, HB⟩ := hrel
      rename World => wr
      clear c0 c1 c2 c3 c4 c5 c6 c7 c8
      have hl50 : e.st.length ≤ 50 := HS.out.2
      by_cases hlt : k < e.st.length
      · obtain ⟨b, off, rfl, hL⟩ := HP.out (by omega)
        obtain ⟨c0, c1, c2⟩ := (hL.bl (bW.trans (m1.trans HB.out))) k hlt
        have hall := List.all_eq_true.1 HS.out.1
        have ho := stpOk_iff.1 (hall _ (List.getElem_mem hlt))
        have hb := sumS_bd (l := e.st.take k) (List.all_eq_true.2 (fun x hx => hall x (List.mem_of_mem_take hx)))
        have hkl : (e.st.take k).length = k := List.length_take_of_le hk
        rw [hkl] at hb
        have hsn := Lib.hid (sumS_take e.st k hlt)
        have k1 : (k : Int) < (e.st.length : Int) := by omega
        generalize e.st[k] = x at *
        obtain ⟨_, o1, o2, o3, o4⟩ := ho
        obtain ⟨b1, b2⟩ := hb
        obtain ⟨sk, hsk⟩ : ∃ sk, sk = sumS (e.st.take k) := ⟨_, rfl⟩
        rw [← hsk] at hsn b1 b2 ⊢
        clear hL hall hkl hsk
        go_wp2_with fail
        go_roundw
        case rel => exact ⟨k + 1, by omega, by go_num, by rw [hsn.out], by first | exact HB.out.alloc _ | exact (HB.out.alloc _).setCell (by simp; have := HB.out.size; omega) _⟩
        case measure => simp [intOf]; omega
      · have hkl : k = e.st.length := by omega
        have htk : Hid (sumS (e.st.take k) = cycE e) := by show _ = _; rw [HR.out, List.take_of_length_le (by omega)]
        have k1 : ¬ (k : Int) < (e.st.length : Int) := by omega
        clear hkl
        go_wp2_with fail
        go_ret
        exact ⟨ret_int htk.out, bW.trans (m1.trans HB.out)⟩
  · have t7 : (e.frm != 7) = true := by simpa using h7
    have HR : Hid (cycE e = e.cyc) := by show _ = _; unfold cycE; rw [if_neg h7]
    clear hs h7
    obtain ⟨W, hW⟩ : ∃ W, W = w.alloc (.cells #[.int .i64 e.frm, .int .i64 e.lo, .int .i64 e.hi, .int .i64 e.cyc, .int .i64 e.wid, .int .i64 e.spr, .bool e.bk, .bool e.rl, .slice o e.st.length cap] 24) := ⟨_, rfl⟩
    obtain ⟨bW, hA⟩ := bA.out W hW
    have HA := Lib.hid hA
    obtain ⟨c0, c1, c2, c3, c4, c5, c6, c7, c8⟩ := hA
    go_enter Tryd.func21, Tryd.ntmps21
    go_wp2_with fail
    go_ret
    exact ⟨ret_int HR.out.symm, (Bl.refl w).alloc _⟩
theorem pathsR_7 (e : Eff) (hf : e.frm = 7) :
    (IsZ e.wid false ∧ Hid (ckE e = 3)) ∨
    (IsZ e.wid true ∧ IsZ e.cyc false ∧ Hid (ckE e = 3)) ∨
    (IsZ e.wid true ∧ IsZ e.cyc true ∧ isLev e.lo = false ∧ Hid (ckE e = 1)) ∨
    (IsZ e.wid true ∧ IsZ e.cyc true ∧ isLev e.lo = true ∧ isLev e.hi = false ∧ Hid (ckE e = 1)) ∨
    (IsZ e.wid true ∧ IsZ e.cyc true ∧ isLev e.lo = true ∧ isLev e.hi = true ∧ e.hi < e.lo ∧ Hid (ckE e = 1)) ∨
    (IsZ e.wid true ∧ IsZ e.cyc true ∧ isLev e.lo = true ∧ isLev e.hi = true ∧ e.lo ≤ e.hi ∧ inR 0 1000 e.wid = true ∧ inR (-10000) 10000 e.spr = false ∧ Hid (ckE e = 1)) ∨
    (IsZ e.wid true ∧ IsZ e.cyc true ∧ isLev e.lo = true ∧ isLev e.hi = true ∧ e.lo ≤ e.hi ∧ inR 0 1000 e.wid = true ∧ inR (-10000) 10000 e.spr = true ∧ ((e.st.length : Int) == 0) = true ∧ Hid (ckE e = 8)) ∨
    (IsZ e.wid true ∧ IsZ e.cyc true ∧ isLev e.lo = true ∧ isLev e.hi = true ∧ e.lo ≤ e.hi ∧ inR 0 1000 e.wid = true ∧ inR (-10000) 10000 e.spr = true ∧ ((e.st.length : Int) == 0) = false ∧ (50 : Int) < (e.st.length : Int) ∧ Hid (ckE e = 2)) ∨
    (IsZ e.wid true ∧ IsZ e.cyc true ∧ isLev e.lo = true ∧ isLev e.hi = true ∧ e.lo ≤ e.hi ∧ inR 0 1000 e.wid = true ∧ inR (-10000) 10000 e.spr = true ∧ ((e.st.length : Int) == 0) = false ∧ (e.st.length : Int) ≤ 50 ∧ Hid (ckE e = ckSt e.st)) := by
  by_cases a1 : e.wid = 0
  case neg =>
    left; exact ⟨isZ_no a1, by show _ = _; unfold ckE; rw [if_neg (by omega), if_pos (by omega)]⟩
  right
  by_cases a2 : e.cyc = 0
  case neg =>
    left; exact ⟨isZ_yes a1, isZ_no a2, by show _ = _; unfold ckE; rw [if_neg (by omega), if_pos (by omega)]⟩
  right
  by_cases a3 : 0 ≤ e.lo ∧ e.lo ≤ 65535
  case neg =>
    left; exact ⟨isZ_yes a1, isZ_yes a2, isLev_no a3, by show _ = _; unfold ckE; rw [if_neg (by omega), if_neg (by omega), if_pos (by omega)]⟩
  right
  by_cases a4 : 0 ≤ e.hi ∧ e.hi ≤ 65535
  case neg =>
    left; exact ⟨isZ_yes a1, isZ_yes a2, isLev_yes a3, isLev_no a4, by show _ = _; unfold ckE; rw [if_neg (by omega), if_neg (by omega), if_pos (by omega)]⟩
  right
  by_cases a5 : e.lo ≤ e.hi
  case neg =>
    left; exact ⟨isZ_yes a1, isZ_yes a2, isLev_yes a3, isLev_yes a4, by omega, by show _ = _; unfold ckE; rw [if_neg (by omega), if_neg (by omega), if_pos (by omega)]⟩
  right
  have a6 : 0 ≤ e.wid ∧ e.wid ≤ 1000 := by omega
  by_cases a7 : -10000 ≤ e.spr ∧ e.spr ≤ 10000
  case neg =>
    left; exact ⟨isZ_yes a1, isZ_yes a2, isLev_yes a3, isLev_yes a4, a5, inR_yes a6, inR_no a7, by show _ = _; unfold ckE; rw [if_neg (by omega), if_neg (by omega), if_neg (by omega), if_pos (by omega)]⟩
  right
  have e7 : ckE e = ckSt e.st := by unfold ckE; rw [if_neg (by omega), if_neg (by omega), if_neg (by omega), if_neg (by omega), if_pos hf]
  by_cases b1 : e.st.length = 0
  · left; exact ⟨isZ_yes a1, isZ_yes a2, isLev_yes a3, isLev_yes a4, a5, inR_yes a6, inR_yes a7, by simp [b1], by show _ = _; rw [e7]; unfold ckSt; rw [if_pos b1]⟩
  right
  have b1' : ((e.st.length : Int) == 0) = false := by rw [beq_eq_false_iff_ne]; omega
  by_cases b2 : 50 < e.st.length
  · left; exact ⟨isZ_yes a1, isZ_yes a2, isLev_yes a3, isLev_yes a4, a5, inR_yes a6, inR_yes a7, b1', by omega, by show _ = _; rw [e7]; unfold ckSt; rw [if_neg b1, if_pos b2]⟩
  right
  exact ⟨isZ_yes a1, isZ_yes a2, isLev_yes a3, isLev_yes a4, a5, inR_yes a6, inR_yes a7, b1', by omega, e7⟩

set_option maxRecDepth 100000 in
set_option maxHeartbeats 12800000 in
theorem checkR_7 (e : Eff) (v : Value) (w : World) (hv : StpVal w v e.st) (hf : e.frm = 7) :
    Calls Tryd.prog 10 #[effV e v] w fun r w' => r = .returned (.int .i64 (ckE e)) ∧ Bl w w' := by
  have HV := Lib.hid hv
  obtain ⟨o, cap, rfl, _, hp⟩ := hv
  have HP := Lib.hid hp
  clear hp
  have bA : Hid (∀ W, W = w.alloc (.cells #[.int .i64 e.frm, .int .i64 e.lo, .int .i64 e.hi, .int .i64 e.cyc, .int .i64 e.wid, .int .i64 e.spr, .bool e.bk, .bool e.rl, .slice o e.st.length cap] 24) → Bl w W ∧ EffAt W w.heap.size e (.slice o e.st.length cap)) :=
    fun W h => by subst h; exact ⟨(Bl.refl w).alloc _, EffAt.new _ _ _ _⟩
  unfold effV
  obtain ⟨⟨f1, f2⟩, f3, f4⟩ : IsF e.frm true false := isF_7 hf
  have f5 : inR 1 7 e.frm = true := inR_yes (by omega)
  have HI := Lib.hid isLevR_at
  have HY := Lib.hid within_at
  have key := pathsR_7 e hf
  have HF := Lib.hid hf
  clear hf
  obtain ⟨W, hW⟩ : ∃ W, W = w.alloc (.cells #[.int .i64 e.frm, .int .i64 e.lo, .int .i64 e.hi, .int .i64 e.cyc, .int .i64 e.wid, .int .i64 e.spr, .bool e.bk, .bool e.rl, .slice o e.st.length cap] 24) := ⟨_, rfl⟩
  obtain ⟨bW, hA⟩ := bA.out W hW
  have HA := Lib.hid hA
  obtain ⟨c0, c1, c2, c3, c4, c5, c6, c7, c8⟩ := hA
  rcases key with ⟨⟨y0, z0⟩, er⟩ | ⟨⟨y0, z0⟩, ⟨y1, z1⟩, er⟩ | ⟨⟨y0, z0⟩, ⟨y1, z1⟩, x2, er⟩ | ⟨⟨y0, z0⟩, ⟨y1, z1⟩, x2, x3, er⟩ | ⟨⟨y0, z0⟩, ⟨y1, z1⟩, x2, x3, x4, er⟩ | ⟨⟨y0, z0⟩, ⟨y1, z1⟩, x2, x3, x4, x5, x6, er⟩ | ⟨⟨y0, z0⟩, ⟨y1, z1⟩, x2, x3, x4, x5, x6, x7, er⟩ | ⟨⟨y0, z0⟩, ⟨y1, z1⟩, x2, x3, x4, x5, x6, x7, x8, er⟩ | key
  iterate 8
    · go_enter Tryd.func10, Tryd.ntmps10
      go_wp2_with fail
      rw [← hW]
      clear hW bA
      go_wp2_with (first
        | (go_at_call 27; (refine (HI.out _ _ _ (by assumption)).mono ?_); rintro r w1 ⟨rfl, rfl⟩)
        | (go_at_call 26; (refine (HY.out _ _ _ _ _ (by assumption)).mono ?_); rintro r w1 ⟨rfl, rfl⟩))
      go_ret
      exact ⟨ret_int er.out.symm, bW⟩
  obtain ⟨⟨y0, z0⟩, ⟨y1, z1⟩, x2, x3, x4, x5, x6, x7, x8, er⟩ := key
  have hl50 : e.st.length ≤ 50 := by omega
  go_enter Tryd.func10, Tryd.ntmps10
  go_wp2_with fail
  rw [← hW]
  clear hW bA
  go_wp2_with (first
    | (go_at_call 27; (refine (HI.out _ _ _ (by assumption)).mono ?_); rintro r w1 ⟨rfl, rfl⟩)
                | (go_at_call 26; (refine (HY.out _ _ _ _ _ (by assumption)).mono ?_); rintro r w1 ⟨rfl, rfl⟩))
  go_loopw [95] (fun vi wr => ∃ k : Nat, k ≤ e.st.length ∧ vi = .int .i64 k ∧ Hid ((e.st.take k).all stpOk = true) ∧ Hid (Bl W wr)) (fun vi _ => e.st.length - (intOf vi).toNat)
  case atStart => exact ⟨0, Nat.zero_le _, rfl, rfl, Bl.refl _⟩
  case round =>
    obtain ⟨k, hk, rfl, HL, HB⟩ := hrel
    rename World => wr
    clear c0 c1 c2 c3 c4 c5 c6 c7 c8
    by_cases hlt : k < e.st.length
    · obtain ⟨b, off, rfl, hL⟩ := HP.out (by omega)
      obtain ⟨c0, c1, c2⟩ := (hL.bl (bW.trans HB.out)) k hlt
      have HN := Lib.hid (fun h => er.out.trans (ckSt_no (l := e.st) hlt hl50 h))
      have HY' := Lib.hid (fun h => all_snoc (l := e.st) hlt HL.out h)
      have k1 : (k : Int) < (e.st.length : Int) := by omega
      generalize e.st[k] = x at *
      clear hL
      cases hl : isLev x.lv with
      | false =>
        have er' : Hid (ckE e = 1) := HN.out (by unfold stpOk; rw [hl]; rfl)
        clear HN HY' er
        go_wp2_with (first
          | (go_at_call 27; (refine (HI.out _ _ _ (by assumption)).mono ?_); rintro r w1 ⟨rfl, rfl⟩)
                | (go_at_call 26; (refine (HY.out _ _ _ _ _ (by assumption)).mono ?_); rintro r w1 ⟨rfl, rfl⟩))
        go_ret
        exact ⟨ret_int er'.out.symm, bW.trans (HB.out.alloc _)⟩
      | true =>
        cases hh : inR 0 3600000 x.ho with
        | false =>
          have er' : Hid (ckE e = 1) := HN.out (by unfold stpOk; rw [hl, Bool.true_and]; apply decide_eq_false; intro hx; rw [inR_yes ⟨hx.1, hx.2.1⟩] at hh; cases hh)
          clear HN HY' er
          go_wp2_with (first
            | (go_at_call 27; (refine (HI.out _ _ _ (by assumption)).mono ?_); rintro r w1 ⟨rfl, rfl⟩)
                | (go_at_call 26; (refine (HY.out _ _ _ _ _ (by assumption)).mono ?_); rintro r w1 ⟨rfl, rfl⟩))
          go_ret
          exact ⟨ret_int er'.out.symm, bW.trans (HB.out.alloc _)⟩
        | true =>
          cases hg : inR 0 3600000 x.fa with
          | false =>
            have er' : Hid (ckE e = 1) := HN.out (by unfold stpOk; rw [hl, Bool.true_and]; apply decide_eq_false; intro hx; rw [inR_yes ⟨hx.2.2.1, hx.2.2.2⟩] at hg; cases hg)
            clear HN HY' er
            go_wp2_with (first
              | (go_at_call 27; (refine (HI.out _ _ _ (by assumption)).mono ?_); rintro r w1 ⟨rfl, rfl⟩)
                | (go_at_call 26; (refine (HY.out _ _ _ _ _ (by assumption)).mono ?_); rintro r w1 ⟨rfl, rfl⟩))
            go_ret
            exact ⟨ret_int er'.out.symm, bW.trans (HB.out.alloc _)⟩
          | true =>
            have hy := HY'.out (by
              unfold stpOk; rw [hl, Bool.true_and]; apply decide_eq_true
              unfold inR at hh hg
              simp only [Bool.and_eq_true, decide_eq_true_eq] at hh hg
              omega)
            have HY2 := Lib.hid hy
            clear hy HY' HN
            go_wp2_with (first
              | (go_at_call 27; (refine (HI.out _ _ _ (by assumption)).mono ?_); rintro r w1 ⟨rfl, rfl⟩)
                | (go_at_call 26; (refine (HY.out _ _ _ _ _ (by assumption)).mono ?_); rintro r w1 ⟨rfl, rfl⟩))
            go_roundw
            case rel => exact ⟨k + 1, by omega, by go_num, HY2.out, by first | exact HB.out.alloc _ | exact (HB.out.alloc _).setCell (by simp; have := HB.out.size; omega) _⟩
            case measure => simp [intOf]; omega
    · have hkl : k = e.st.length := by omega
      have hall : e.st.all stpOk = true := by have := HL.out; rwa [List.take_of_length_le (by omega)] at this
      have HVV := Lib.hid (fun w' (m : Bl w w') => cycleR_any e (.slice o e.st.length cap) w' (HV.out.bl m) (fun _ => ⟨hall, hl50⟩))
      have HCY : Hid (cycE e = sumS e.st) := by show _ = _; unfold cycE; rw [if_pos HF.out]
      have k1 : ¬ (k : Int) < (e.st.length : Int) := by omega
      have hne : ¬ e.st.length = 0 := fun h => by rw [h] at x7; cases x7
      have HD : Hid (ckE e = if cycE e < 1 ∨ 3600000 < cycE e then 1 else 0) := by
        show _ = _; rw [er.out]; unfold ckSt; rw [if_neg hne, if_neg (by omega), if_neg (by rw [hall]; decide), HCY.out]
      obtain ⟨c0, c1, c2, c3, c4, c5, c6, c7, c8⟩ := HA.out.bl HB.out
      clear hkl hall HCY er hne
      cases hcy : inR 1 3600000 (cycE e) with
      | true =>
        have er : Hid (ckE e = 0) := by
          show _ = _
          unfold inR at hcy
          simp only [Bool.and_eq_true, decide_eq_true_eq] at hcy
          rw [HD.out, if_neg (by omega)]
        clear HD
        generalize cycE e = C at *
        go_wp2_with (first
          | (go_at_call 21; (refine (HVV.out _ (bW.trans HB.out)).mono ?_); rintro r w1 ⟨rfl, m1⟩)
          | (go_at_call 27; (refine (HI.out _ _ _ (by assumption)).mono ?_); rintro r w1 ⟨rfl, rfl⟩)
                | (go_at_call 26; (refine (HY.out _ _ _ _ _ (by assumption)).mono ?_); rintro r w1 ⟨rfl, rfl⟩))
        go_ret
        exact ⟨ret_int er.out.symm, bW.trans (HB.out.trans m1)⟩
      | false =>
        have er : Hid (ckE e = 1) := by
          show _ = _
          rw [HD.out, if_pos]
          apply Decidable.byContradiction
          intro hn
          rw [inR_yes (by omega)] at hcy
          cases hcy
        clear HD
        generalize cycE e = C at *
        go_wp2_with (first
          | (go_at_call 21; (refine (HVV.out _ (bW.trans HB.out)).mono ?_); rintro r w1 ⟨rfl, m1⟩)
          | (go_at_call 27; (refine (HI.out _ _ _ (by assumption)).mono ?_); rintro r w1 ⟨rfl, rfl⟩)
                | (go_at_call 26; (refine (HY.out _ _ _ _ _ (by assumption)).mono ?_); rintro r w1 ⟨rfl, rfl⟩))
        go_ret
        exact ⟨ret_int er.out.symm, bW.trans (HB.out.trans m1)⟩
theorem pathsR_4 (e : Eff) (hf : e.frm = 4) :
    (HasS e.st true ∧ Hid (ckE e = 3)) ∨
    (HasS e.st false ∧ isLev e.lo = false ∧ Hid (ckE e = 1)) ∨
    (HasS e.st false ∧ isLev e.lo = true ∧ isLev e.hi = false ∧ Hid (ckE e = 1)) ∨
    (HasS e.st false ∧ isLev e.lo = true ∧ isLev e.hi = true ∧ e.hi < e.lo ∧ Hid (ckE e = 1)) ∨
    (HasS e.st false ∧ isLev e.lo = true ∧ isLev e.hi = true ∧ e.lo ≤ e.hi ∧ inR 1 3600000 e.cyc = false ∧ Hid (ckE e = 1)) ∨
    (HasS e.st false ∧ isLev e.lo = true ∧ isLev e.hi = true ∧ e.lo ≤ e.hi ∧ inR 1 3600000 e.cyc = true ∧ inR 0 1000 e.wid = false ∧ Hid (ckE e = 1)) ∨
    (HasS e.st false ∧ isLev e.lo = true ∧ isLev e.hi = true ∧ e.lo ≤ e.hi ∧ inR 1 3600000 e.cyc = true ∧ inR 0 1000 e.wid = true ∧ inR (-10000) 10000 e.spr = false ∧ Hid (ckE e = 1)) ∨
    (HasS e.st false ∧ isLev e.lo = true ∧ isLev e.hi = true ∧ e.lo ≤ e.hi ∧ inR 1 3600000 e.cyc = true ∧ inR 0 1000 e.wid = true ∧ inR (-10000) 10000 e.spr = true ∧ Hid (ckE e = 0)) := by
  by_cases a1 : e.st.length = 0
  case neg =>
    left; exact ⟨hasS_yes (by omega), by show _ = _; unfold ckE; rw [if_neg (by omega), if_pos (by omega)]⟩
  right
  by_cases a2 : 0 ≤ e.lo ∧ e.lo ≤ 65535
  case neg =>
    left; exact ⟨hasS_no (by omega), isLev_no a2, by show _ = _; unfold ckE; rw [if_neg (by omega), if_neg (by omega), if_pos (by omega)]⟩
  right
  by_cases a3 : 0 ≤ e.hi ∧ e.hi ≤ 65535
  case neg =>
    left; exact ⟨hasS_no (by omega), isLev_yes a2, isLev_no a3, by show _ = _; unfold ckE; rw [if_neg (by omega), if_neg (by omega), if_pos (by omega)]⟩
  right
  by_cases a4 : e.lo ≤ e.hi
  case neg =>
    left; exact ⟨hasS_no (by omega), isLev_yes a2, isLev_yes a3, by omega, by show _ = _; unfold ckE; rw [if_neg (by omega), if_neg (by omega), if_pos (by omega)]⟩
  right
  by_cases a5 : 1 ≤ e.cyc ∧ e.cyc ≤ 3600000
  case neg =>
    left; exact ⟨hasS_no (by omega), isLev_yes a2, isLev_yes a3, a4, inR_no a5, by show _ = _; unfold ckE; rw [if_neg (by omega), if_neg (by omega), if_neg (by omega), if_pos (by omega)]⟩
  right
  by_cases a6 : 0 ≤ e.wid ∧ e.wid ≤ 1000
  case neg =>
    left; exact ⟨hasS_no (by omega), isLev_yes a2, isLev_yes a3, a4, inR_yes a5, inR_no a6, by show _ = _; unfold ckE; rw [if_neg (by omega), if_neg (by omega), if_neg (by omega), if_pos (by omega)]⟩
  right
  by_cases a7 : -10000 ≤ e.spr ∧ e.spr ≤ 10000
  case neg =>
    left; exact ⟨hasS_no (by omega), isLev_yes a2, isLev_yes a3, a4, inR_yes a5, inR_yes a6, inR_no a7, by show _ = _; unfold ckE; rw [if_neg (by omega), if_neg (by omega), if_neg (by omega), if_pos (by omega)]⟩
  right
  exact ⟨hasS_no (by omega), isLev_yes a2, isLev_yes a3, a4, inR_yes a5, inR_yes a6, inR_yes a7, by show _ = _; unfold ckE; rw [if_neg (by omega), if_neg (by omega), if_neg (by omega), if_neg (by omega), if_neg (by omega)]⟩

set_option maxRecDepth 100000 in
set_option maxHeartbeats 12800000 in
theorem checkR_4 (e : Eff) (v : Value) (w : World) (hv : StpVal w v e.st) (hf : e.frm = 4) :
    Calls Tryd.prog 10 #[effV e v] w fun r w' => r = .returned (.int .i64 (ckE e)) ∧ Bl w w' := by
  have HV := Lib.hid hv
  obtain ⟨o, cap, rfl, _, hp⟩ := hv
  have HP := Lib.hid hp
  clear hp
  have bA : Hid (∀ W, W = w.alloc (.cells #[.int .i64 e.frm, .int .i64 e.lo, .int .i64 e.hi, .int .i64 e.cyc, .int .i64 e.wid, .int .i64 e.spr, .bool e.bk, .bool e.rl, .slice o e.st.length cap] 24) → Bl w W ∧ EffAt W w.heap.size e (.slice o e.st.length cap)) :=
    fun W h => by subst h; exact ⟨(Bl.refl w).alloc _, EffAt.new _ _ _ _⟩
  unfold effV
  obtain ⟨⟨f1, f2⟩, f3, f4⟩ : IsF e.frm false true := isF_4 hf
  have f5 : inR 1 7 e.frm = true := inR_yes (by omega)
  have HI := Lib.hid isLevR_at
  have HY := Lib.hid within_at
  have key := pathsR_4 e hf
  clear hf
  obtain ⟨W, hW⟩ : ∃ W, W = w.alloc (.cells #[.int .i64 e.frm, .int .i64 e.lo, .int .i64 e.hi, .int .i64 e.cyc, .int .i64 e.wid, .int .i64 e.spr, .bool e.bk, .bool e.rl, .slice o e.st.length cap] 24) := ⟨_, rfl⟩
  obtain ⟨bW, hA⟩ := bA.out W hW
  have HA := Lib.hid hA
  obtain ⟨c0, c1, c2, c3, c4, c5, c6, c7, c8⟩ := hA
  rcases key with ⟨⟨y0, z0⟩, er⟩ | ⟨⟨y0, z0⟩, x1, er⟩ | ⟨⟨y0, z0⟩, x1, x2, er⟩ | ⟨⟨y0, z0⟩, x1, x2, x3, er⟩ | ⟨⟨y0, z0⟩, x1, x2, x3, x4, er⟩ | ⟨⟨y0, z0⟩, x1, x2, x3, x4, x5, er⟩ | ⟨⟨y0, z0⟩, x1, x2, x3, x4, x5, x6, er⟩ | ⟨⟨y0, z0⟩, x1, x2, x3, x4, x5, x6, er⟩
  all_goals
    go_enter Tryd.func10, Tryd.ntmps10
    go_wp2_with fail
    rw [← hW]
    clear hW bA
    go_wp2_with (first
      | (go_at_call 27; (refine (HI.out _ _ _ (by assumption)).mono ?_); rintro r w1 ⟨rfl, rfl⟩)
      | (go_at_call 26; (refine (HY.out _ _ _ _ _ (by assumption)).mono ?_); rintro r w1 ⟨rfl, rfl⟩))
    go_ret
    exact ⟨ret_int er.out.symm, bW⟩
theorem pathsR_x (e : Eff) (hf : 1 ≤ e.frm ∧ e.frm ≤ 7 ∧ e.frm ≠ 7 ∧ e.frm ≠ 4) :
    (IsZ e.wid false ∧ Hid (ckE e = 3)) ∨
    (IsZ e.wid true ∧ HasS e.st true ∧ Hid (ckE e = 3)) ∨
    (IsZ e.wid true ∧ HasS e.st false ∧ isLev e.lo = false ∧ Hid (ckE e = 1)) ∨
    (IsZ e.wid true ∧ HasS e.st false ∧ isLev e.lo = true ∧ isLev e.hi = false ∧ Hid (ckE e = 1)) ∨
    (IsZ e.wid true ∧ HasS e.st false ∧ isLev e.lo = true ∧ isLev e.hi = true ∧ e.hi < e.lo ∧ Hid (ckE e = 1)) ∨
    (IsZ e.wid true ∧ HasS e.st false ∧ isLev e.lo = true ∧ isLev e.hi = true ∧ e.lo ≤ e.hi ∧ inR 1 3600000 e.cyc = false ∧ Hid (ckE e = 1)) ∨
    (IsZ e.wid true ∧ HasS e.st false ∧ isLev e.lo = true ∧ isLev e.hi = true ∧ e.lo ≤ e.hi ∧ inR 1 3600000 e.cyc = true ∧ inR 0 1000 e.wid = true ∧ inR (-10000) 10000 e.spr = false ∧ Hid (ckE e = 1)) ∨
    (IsZ e.wid true ∧ HasS e.st false ∧ isLev e.lo = true ∧ isLev e.hi = true ∧ e.lo ≤ e.hi ∧ inR 1 3600000 e.cyc = true ∧ inR 0 1000 e.wid = true ∧ inR (-10000) 10000 e.spr = true ∧ Hid (ckE e = 0)) := by
  by_cases a1 : e.wid = 0
  case neg =>
    left; exact ⟨isZ_no a1, by show _ = _; unfold ckE; rw [if_neg (by omega), if_pos (by omega)]⟩
  right
  by_cases a2 : e.st.length = 0
  case neg =>
    left; exact ⟨isZ_yes a1, hasS_yes (by omega), by show _ = _; unfold ckE; rw [if_neg (by omega), if_pos (by omega)]⟩
  right
  by_cases a3 : 0 ≤ e.lo ∧ e.lo ≤ 65535
  case neg =>
    left; exact ⟨isZ_yes a1, hasS_no (by omega), isLev_no a3, by show _ = _; unfold ckE; rw [if_neg (by omega), if_neg (by omega), if_pos (by omega)]⟩
  right
  by_cases a4 : 0 ≤ e.hi ∧ e.hi ≤ 65535
  case neg =>
    left; exact ⟨isZ_yes a1, hasS_no (by omega), isLev_yes a3, isLev_no a4, by show _ = _; unfold ckE; rw [if_neg (by omega), if_neg (by omega), if_pos (by omega)]⟩
  right
  by_cases a5 : e.lo ≤ e.hi
  case neg =>
    left; exact ⟨isZ_yes a1, hasS_no (by omega), isLev_yes a3, isLev_yes a4, by omega, by show _ = _; unfold ckE; rw [if_neg (by omega), if_neg (by omega), if_pos (by omega)]⟩
  right
  by_cases a6 : 1 ≤ e.cyc ∧ e.cyc ≤ 3600000
  case neg =>
    left; exact ⟨isZ_yes a1, hasS_no (by omega), isLev_yes a3, isLev_yes a4, a5, inR_no a6, by show _ = _; unfold ckE; rw [if_neg (by omega), if_neg (by omega), if_neg (by omega), if_pos (by omega)]⟩
  right
  have a7 : 0 ≤ e.wid ∧ e.wid ≤ 1000 := by omega
  by_cases a8 : -10000 ≤ e.spr ∧ e.spr ≤ 10000
  case neg =>
    left; exact ⟨isZ_yes a1, hasS_no (by omega), isLev_yes a3, isLev_yes a4, a5, inR_yes a6, inR_yes a7, inR_no a8, by show _ = _; unfold ckE; rw [if_neg (by omega), if_neg (by omega), if_neg (by omega), if_pos (by omega)]⟩
  right
  exact ⟨isZ_yes a1, hasS_no (by omega), isLev_yes a3, isLev_yes a4, a5, inR_yes a6, inR_yes a7, inR_yes a8, by show _ = _; unfold ckE; rw [if_neg (by omega), if_neg (by omega), if_neg (by omega), if_neg (by omega), if_neg (by omega)]⟩

set_option maxRecDepth 100000 in
set_option maxHeartbeats 12800000 in
theorem checkR_x (e : Eff) (v : Value) (w : World) (hv : StpVal w v e.st) (hf : 1 ≤ e.frm ∧ e.frm ≤ 7 ∧ e.frm ≠ 7 ∧ e.frm ≠ 4) :
    Calls Tryd.prog 10 #[effV e v] w fun r w' => r = .returned (.int .i64 (ckE e)) ∧ Bl w w' := by
  have HV := Lib.hid hv
  obtain ⟨o, cap, rfl, _, hp⟩ := hv
  have HP := Lib.hid hp
  clear hp
  have bA : Hid (∀ W, W = w.alloc (.cells #[.int .i64 e.frm, .int .i64 e.lo, .int .i64 e.hi, .int .i64 e.cyc, .int .i64 e.wid, .int .i64 e.spr, .bool e.bk, .bool e.rl, .slice o e.st.length cap] 24) → Bl w W ∧ EffAt W w.heap.size e (.slice o e.st.length cap)) :=
    fun W h => by subst h; exact ⟨(Bl.refl w).alloc _, EffAt.new _ _ _ _⟩
  unfold effV
  obtain ⟨⟨f1, f2⟩, f3, f4⟩ : IsF e.frm false false := isF_x hf.2.2.1 hf.2.2.2
  have f5 : inR 1 7 e.frm = true := inR_yes (by omega)
  have HI := Lib.hid isLevR_at
  have HY := Lib.hid within_at
  have key := pathsR_x e hf
  clear hf
  obtain ⟨W, hW⟩ : ∃ W, W = w.alloc (.cells #[.int .i64 e.frm, .int .i64 e.lo, .int .i64 e.hi, .int .i64 e.cyc, .int .i64 e.wid, .int .i64 e.spr, .bool e.bk, .bool e.rl, .slice o e.st.length cap] 24) := ⟨_, rfl⟩
  obtain ⟨bW, hA⟩ := bA.out W hW
  have HA := Lib.hid hA
  obtain ⟨c0, c1, c2, c3, c4, c5, c6, c7, c8⟩ := hA
  rcases key with ⟨⟨y0, z0⟩, er⟩ | ⟨⟨y0, z0⟩, ⟨y1, z1⟩, er⟩ | ⟨⟨y0, z0⟩, ⟨y1, z1⟩, x2, er⟩ | ⟨⟨y0, z0⟩, ⟨y1, z1⟩, x2, x3, er⟩ | ⟨⟨y0, z0⟩, ⟨y1, z1⟩, x2, x3, x4, er⟩ | ⟨⟨y0, z0⟩, ⟨y1, z1⟩, x2, x3, x4, x5, er⟩ | ⟨⟨y0, z0⟩, ⟨y1, z1⟩, x2, x3, x4, x5, x6, x7, er⟩ | ⟨⟨y0, z0⟩, ⟨y1, z1⟩, x2, x3, x4, x5, x6, x7, er⟩
  all_goals
    go_enter Tryd.func10, Tryd.ntmps10
    go_wp2_with fail
    rw [← hW]
    clear hW bA
    go_wp2_with (first
      | (go_at_call 27; (refine (HI.out _ _ _ (by assumption)).mono ?_); rintro r w1 ⟨rfl, rfl⟩)
      | (go_at_call 26; (refine (HY.out _ _ _ _ _ (by assumption)).mono ?_); rintro r w1 ⟨rfl, rfl⟩))
    go_ret
    exact ⟨ret_int er.out.symm, bW⟩
end Go.Proofs.YtkllhockcnokeaaDoor
