/- checkSteps, Check and Period of the program. -/
import Derived.Test.YtkllhockcnokeaaDoorEfC
namespace Go.Proofs.YtkllhockcnokeaaDoor
open Go.RowKit Go.Sort

theorem ckSt_no {l : List Stp} {k : Nat} (h : k < l.length) (h0 : l.length ≤ 50) (hb : stpOk l[k] = false) : ckSt l = 1 := by
  unfold ckSt
  rw [if_neg (by omega), if_neg (by omega), if_pos]
  rw [List.all_eq_false]
  exact ⟨l[k], List.getElem_mem h, by rw [hb]; decide⟩
theorem all_snoc {l : List Stp} {k : Nat} (h : k < l.length) (ha : (l.take k).all stpOk = true) (hb : stpOk l[k] = true) : (l.take (k + 1)).all stpOk = true := by
  rw [List.take_succ_eq_append_getElem h, List.all_append, ha]; simp [hb]

set_option maxRecDepth 100000 in
set_option maxHeartbeats 3200000 in
theorem checkSteps_any (e : Eff) (v : Value) (w : World) (h7 : e.frm = 7) (hv : StpVal w v e.st) :
    Calls Tryd.prog 25 #[effV e v] w fun r w' => r = .returned (.int .i64 (ckSt e.st)) ∧ Bl w w' := by
  have HV := Lib.hid hv
  have H7 := Lib.hid h7
  clear h7
  obtain ⟨o, cap, rfl, _, hp⟩ := hv
  have HP := Lib.hid hp
  have bA : Hid (∀ W, W = w.alloc (.cells #[.int .i64 e.frm, .int .i64 e.lo, .int .i64 e.hi, .int .i64 e.cyc, .int .i64 e.wid, .int .i64 e.spr, .bool e.bk, .bool e.rl, .slice o e.st.length cap] 24) → Bl w W ∧ EffAt W w.heap.size e (.slice o e.st.length cap)) :=
    fun W h => by subst h; exact ⟨(Bl.refl w).alloc _, EffAt.new _ _ _ _⟩
  clear hp
  unfold effV
  obtain ⟨W, hW⟩ : ∃ W, W = w.alloc (.cells #[.int .i64 e.frm, .int .i64 e.lo, .int .i64 e.hi, .int .i64 e.cyc, .int .i64 e.wid, .int .i64 e.spr, .bool e.bk, .bool e.rl, .slice o e.st.length cap] 24) := ⟨_, rfl⟩
  obtain ⟨bW, hA⟩ := bA.out W hW
  have HA := Lib.hid hA
  obtain ⟨c0, c1, c2, c3, c4, c5, c6, c7, c8⟩ := hA
  by_cases h0 : e.st.length = 0
  · have er : Hid (ckSt e.st = 8) := by show _ = _; unfold ckSt; rw [if_pos h0]
    have t1 : ((e.st.length : Int) == 0) = true := by rw [beq_iff_eq]; omega
    clear h0
    go_enter Tryd.func25, Tryd.ntmps25
    go_wp2_with fail
    go_ret
    exact ⟨ret_int er.out.symm, (Bl.refl w).alloc _⟩
  have t1 : ((e.st.length : Int) == 0) = false := by rw [beq_eq_false_iff_ne]; omega
  by_cases h50 : 50 < e.st.length
  · have er : Hid (ckSt e.st = 2) := by show _ = _; unfold ckSt; rw [if_neg h0, if_pos h50]
    have t2 : (50 : Int) < (e.st.length : Int) := by omega
    clear h0 h50
    go_enter Tryd.func25, Tryd.ntmps25
    go_wp2_with fail
    go_ret
    exact ⟨ret_int er.out.symm, (Bl.refl w).alloc _⟩
  have t2 : ¬ (50 : Int) < (e.st.length : Int) := by omega
  have hl50 : e.st.length ≤ 50 := by omega
  have hl50' : (e.st.length : Int) ≤ 50 := by omega
  have H0 := Lib.hid h0
  clear h0 h50
  have hc8 := Lib.hid c8
  go_enter Tryd.func25, Tryd.ntmps25
  go_wp2_with fail
  rw [← hW]
  clear hW bA
  go_loopw [18] (fun vi wr => ∃ k : Nat, k ≤ e.st.length ∧ vi = .int .i64 k ∧ Hid ((e.st.take k).all stpOk = true) ∧ Hid (Bl W wr)) (fun vi _ => e.st.length - (intOf vi).toNat)
  case atStart => exact ⟨0, Nat.zero_le _, rfl, rfl, Bl.refl _⟩
  case round =>
    obtain ⟨k, hk, rfl, HL, HB⟩ := hrel
    rename World => wr
    clear c0 c1 c2 c3 c4 c5 c6 c7 c8
    by_cases hlt : k < e.st.length
    · obtain ⟨b, off, rfl, hL⟩ := HP.out (by omega)
      obtain ⟨c0, c1, c2⟩ := (hL.bl (bW.trans HB.out)) k hlt
      have HN := Lib.hid (fun h => ckSt_no (l := e.st) hlt hl50 h)
      have HY := Lib.hid (fun h => all_snoc (l := e.st) hlt HL.out h)
      have k1 : (k : Int) < (e.st.length : Int) := by omega
      generalize e.st[k] = x at *
      clear hL
      cases hl : isLev x.lv with
      | false =>
        have H1 := Lib.hid (fun w => isLev_ef x.lv false hl w)
        have er : Hid (ckSt e.st = 1) := HN.out (by unfold stpOk; rw [hl]; rfl)
        clear hl HN HY
        go_wp2_with (go_at_call 23; (with_reducible refine (H1.out _).mono ?_); rintro e w1 ⟨rfl, rfl⟩)
        go_ret
        exact ⟨ret_int er.out.symm, bW.trans (HB.out.alloc _)⟩
      | true =>
        have H1 := Lib.hid (fun w => isLev_ef x.lv true hl w)
        have HL1 := Lib.hid hl
        clear hl
        by_cases hx : 0 ≤ x.ho ∧ x.ho ≤ 3600000 ∧ 0 ≤ x.fa ∧ x.fa ≤ 3600000
        · have hy := HY.out (by unfold stpOk; rw [HL1.out, Bool.true_and]; simpa using hx)
          have HY' := Lib.hid hy
          clear hy HY HN HL1
          obtain ⟨x1, x2, x3, x4⟩ := hx
          go_wp2_with (go_at_call 23; (with_reducible refine (H1.out _).mono ?_); rintro e w1 ⟨rfl, rfl⟩)
          go_roundw
          case rel => exact ⟨k + 1, by omega, by go_num, HY'.out, by first | exact HB.out.alloc _ | exact (HB.out.alloc _).setCell (by simp; have := HB.out.size; omega) _⟩
          case measure => simp [intOf]; omega
        · have er : Hid (ckSt e.st = 1) := HN.out (by unfold stpOk; rw [HL1.out, Bool.true_and]; simpa using hx)
          have HX := Lib.hid hx
          clear HY HN HL1 hx
          go_wp2_with (go_at_call 23; (with_reducible refine (H1.out _).mono ?_); rintro e w1 ⟨rfl, rfl⟩)
          all_goals first
            | (exfalso; have := HX.out; omega)
            | (go_ret; exact ⟨ret_int er.out.symm, bW.trans (HB.out.alloc _)⟩)
    · have hkl : k = e.st.length := by omega
      have hall : e.st.all stpOk = true := by have := HL.out; rwa [List.take_of_length_le (by omega)] at this
      have HS := Lib.hid (cycleOf_any e (.slice o e.st.length cap))
      have HVV := Lib.hid (fun w' (m : Bl w w') => HS.out w' (HV.out.bl m) (fun _ => ⟨hall, hl50⟩))
      have HCY : Hid (cycE e = sumS e.st) := by show _ = _; unfold cycE; rw [if_pos H7.out]
      have k1 : ¬ (k : Int) < (e.st.length : Int) := by omega
      have HD : Hid (ckSt e.st = if cycE e < 1 ∨ 3600000 < cycE e then 1 else 0) := by
        show _ = _; unfold ckSt; rw [if_neg H0.out, if_neg (by omega), if_neg (by rw [hall]; decide), HCY.out]
      obtain ⟨c0, c1, c2, c3, c4, c5, c6, c7, c8⟩ := HA.out.bl HB.out
      clear hkl hall HCY HS H0
      by_cases hcy : 1 ≤ cycE e ∧ cycE e ≤ 3600000
      · have H2 := Lib.hid (isCycle_yes _ hcy)
        have er : Hid (ckSt e.st = 0) := by show _ = _; rw [HD.out, if_neg (by omega)]
        clear HD hcy
        generalize cycE e = C at *
        go_wp2_with (first
          | (go_at_call 20; (refine (HVV.out _ (bW.trans HB.out)).mono ?_); rintro r w1 ⟨rfl, m1⟩)
          | (go_at_call 24; (with_reducible refine (H2.out _).mono ?_); rintro r w2 ⟨rfl, rfl⟩))
        go_ret
        exact ⟨ret_int er.out.symm, bW.trans (HB.out.trans m1)⟩
      · have H2 := Lib.hid (isCycle_no (cycE e) (by omega))
        have er : Hid (ckSt e.st = 1) := by show _ = _; rw [HD.out, if_pos (by omega)]
        clear HD hcy
        generalize cycE e = C at *
        go_wp2_with (first
          | (go_at_call 20; (refine (HVV.out _ (bW.trans HB.out)).mono ?_); rintro r w1 ⟨rfl, m1⟩)
          | (go_at_call 24; (with_reducible refine (H2.out _).mono ?_); rintro r w2 ⟨rfl, rfl⟩))
        go_ret
        exact ⟨ret_int er.out.symm, bW.trans (HB.out.trans m1)⟩

/-- A cycle's length is within its bounds. -/
def isCy (n : Int) : Bool := decide (1 ≤ n) && decide (n ≤ 3600000)
theorem isCycle_is (n : Int) (c : Bool) (w : World) (h : isCy n = c) :
    Calls Tryd.prog 24 #[.int .i64 n] w fun e w' => e = .returned (.bool c) ∧ w = w' := by
  subst h
  by_cases h : 1 ≤ n ∧ n ≤ 3600000
  · have : isCy n = true := by unfold isCy; simpa using h
    rw [this]; exact isCycle_yes n h w
  · have : isCy n = false := by unfold isCy; rw [Bool.and_eq_false_iff]; simp; omega
    rw [this]; exact isCycle_no n (by omega) w
theorem isLev_at (n : Int) (c : Bool) (w : World) (h : isLev n = c) :
    Calls Tryd.prog 23 #[.int .i64 n] w fun e w' => e = .returned (.bool c) ∧ w = w' := isLev_ef n c h w
/-- Whether a number is 0, as a walk asks it. -/
def IsZ (n : Int) (c : Bool) : Prop := (n == 0) = c ∧ (n != 0) = !c
theorem isZ_yes {n : Int} (h : n = 0) : IsZ n true := by subst h; exact ⟨rfl, rfl⟩
theorem isZ_no {n : Int} (h : ¬ n = 0) : IsZ n false := ⟨by simpa using h, by simpa using h⟩
theorem isLev_yes {n : Int} (h : 0 ≤ n ∧ n ≤ 65535) : isLev n = true := isLev_iff.2 h
theorem isLev_no {n : Int} (h : ¬ (0 ≤ n ∧ n ≤ 65535)) : isLev n = false := by
  cases hc : isLev n with
  | false => rfl
  | true => exact absurd (isLev_iff.1 hc) h
theorem isCy_yes {n : Int} (h : 1 ≤ n ∧ n ≤ 3600000) : isCy n = true := by unfold isCy; simpa using h
theorem isCy_no {n : Int} (h : ¬ (1 ≤ n ∧ n ≤ 3600000)) : isCy n = false := by unfold isCy; rw [Bool.and_eq_false_iff]; simp; omega
/-- How many steps there are, as a walk asks it. -/
def HasS (l : List Stp) (c : Bool) : Prop := decide ((0 : Int) < (l.length : Int)) = c ∧ decide (0 < l.length) = c
theorem hasS_yes {l : List Stp} (h : 0 < l.length) : HasS l true := ⟨by simpa using h, by simpa using h⟩
theorem hasS_no {l : List Stp} (h : ¬ 0 < l.length) : HasS l false := ⟨decide_eq_false (by omega), decide_eq_false h⟩
theorem paths_7 (e : Eff) (hf : e.frm = 7) :
    (IsZ e.cyc false ∧ Hid (ckE e = 3)) ∨
    (IsZ e.cyc true ∧ IsZ e.wid false ∧ Hid (ckE e = 3)) ∨
    (IsZ e.cyc true ∧ IsZ e.wid true ∧ isLev e.lo = false ∧ Hid (ckE e = 1)) ∨
    (IsZ e.cyc true ∧ IsZ e.wid true ∧ isLev e.lo = true ∧ isLev e.hi = false ∧ Hid (ckE e = 1)) ∨
    (IsZ e.cyc true ∧ IsZ e.wid true ∧ isLev e.lo = true ∧ isLev e.hi = true ∧ e.hi < e.lo ∧ Hid (ckE e = 1)) ∨
    (IsZ e.cyc true ∧ IsZ e.wid true ∧ isLev e.lo = true ∧ isLev e.hi = true ∧ e.lo ≤ e.hi ∧ 0 ≤ e.wid ∧ e.wid ≤ 1000 ∧ e.spr < -10000 ∧ Hid (ckE e = 1)) ∨
    (IsZ e.cyc true ∧ IsZ e.wid true ∧ isLev e.lo = true ∧ isLev e.hi = true ∧ e.lo ≤ e.hi ∧ 0 ≤ e.wid ∧ e.wid ≤ 1000 ∧ -10000 ≤ e.spr ∧ 10000 < e.spr ∧ Hid (ckE e = 1)) ∨
    (IsZ e.cyc true ∧ IsZ e.wid true ∧ isLev e.lo = true ∧ isLev e.hi = true ∧ e.lo ≤ e.hi ∧ 0 ≤ e.wid ∧ e.wid ≤ 1000 ∧ -10000 ≤ e.spr ∧ e.spr ≤ 10000 ∧ Hid (ckE e = ckSt e.st)) := by
  by_cases a1 : e.cyc = 0
  case neg =>
    left; exact ⟨isZ_no a1, by show _ = _; unfold ckE; rw [if_neg (by omega), if_pos (by omega)]⟩
  right
  by_cases a2 : e.wid = 0
  case neg =>
    left; exact ⟨isZ_yes a1, isZ_no a2, by show _ = _; unfold ckE; rw [if_neg (by omega), if_pos (by omega)]⟩
  right
  by_cases a3 : 0 ≤ e.lo ∧ e.lo ≤ 65535
  case neg =>
    left; exact ⟨isZ_yes a1, isZ_yes a2, isLev_no a3, by show _ = _; unfold ckE; rw [if_neg (by omega), if_neg (by omega), if_pos (by omega)]⟩
  right
  by_cases a4 : 0 ≤ e.hi ∧ e.hi ≤ 65535
  case neg =>
    left; exact ⟨isZ_yes a1, isZ_yes a2, isLev_yes a3, isLev_no a4, by show _ = _; unfold ckE; rw [if_neg (by omega), if_neg (by omega), if_pos (by omega)]⟩
  right
  by_cases a5 : e.lo ≤ e.hi
  case neg =>
    left; exact ⟨isZ_yes a1, isZ_yes a2, isLev_yes a3, isLev_yes a4, by omega, by show _ = _; unfold ckE; rw [if_neg (by omega), if_neg (by omega), if_pos (by omega)]⟩
  right
  have a6 : 0 ≤ e.wid := by omega
  have a7 : e.wid ≤ 1000 := by omega
  by_cases a8 : -10000 ≤ e.spr
  case neg =>
    left; exact ⟨isZ_yes a1, isZ_yes a2, isLev_yes a3, isLev_yes a4, a5, a6, a7, by omega, by show _ = _; unfold ckE; rw [if_neg (by omega), if_neg (by omega), if_neg (by omega), if_pos (by omega)]⟩
  right
  by_cases a9 : e.spr ≤ 10000
  case neg =>
    left; exact ⟨isZ_yes a1, isZ_yes a2, isLev_yes a3, isLev_yes a4, a5, a6, a7, a8, by omega, by show _ = _; unfold ckE; rw [if_neg (by omega), if_neg (by omega), if_neg (by omega), if_pos (by omega)]⟩
  right
  exact ⟨isZ_yes a1, isZ_yes a2, isLev_yes a3, isLev_yes a4, a5, a6, a7, a8, a9, by show _ = _; unfold ckE; rw [if_neg (by omega), if_neg (by omega), if_neg (by omega), if_neg (by omega), if_pos hf]⟩

set_option maxRecDepth 100000 in
set_option maxHeartbeats 12800000 in
theorem check_7 (e : Eff) (v : Value) (w : World) (hv : StpVal w v e.st) (hf : e.frm = 7) :
    Calls Tryd.prog 9 #[effV e v] w fun r w' => r = .returned (.int .i64 (ckE e)) ∧ Bl w w' := by
  have HV := Lib.hid hv
  obtain ⟨o, cap, rfl, _, hp⟩ := hv
  clear hp
  have bA : Hid (∀ W, W = w.alloc (.cells #[.int .i64 e.frm, .int .i64 e.lo, .int .i64 e.hi, .int .i64 e.cyc, .int .i64 e.wid, .int .i64 e.spr, .bool e.bk, .bool e.rl, .slice o e.st.length cap] 24) → Bl w W ∧ EffAt W w.heap.size e (.slice o e.st.length cap)) :=
    fun W h => by subst h; exact ⟨(Bl.refl w).alloc _, EffAt.new _ _ _ _⟩
  unfold effV
  have HC := Lib.hid (hasCycle_is e (.slice o e.st.length cap) false (by simp; omega))
  have HW := Lib.hid (hasWidth_is e (.slice o e.st.length cap) false (by simp; omega))
  have HS := Lib.hid (hasSteps_is e (.slice o e.st.length cap) true (by simp; omega))
  have f1 : 1 ≤ e.frm := by omega
  have f7 : e.frm ≤ 7 := by omega
  have HK := Lib.hid (fun w' (m : Bl w w') => checkSteps_any e (.slice o e.st.length cap) w' hf (HV.out.bl m))
  have HI := Lib.hid isLev_at
  have HY := Lib.hid isCycle_is
  have key := paths_7 e hf
  clear hf
  obtain ⟨W, hW⟩ : ∃ W, W = w.alloc (.cells #[.int .i64 e.frm, .int .i64 e.lo, .int .i64 e.hi, .int .i64 e.cyc, .int .i64 e.wid, .int .i64 e.spr, .bool e.bk, .bool e.rl, .slice o e.st.length cap] 24) := ⟨_, rfl⟩
  obtain ⟨bW, hA⟩ := bA.out W hW
  have HA := Lib.hid hA
  obtain ⟨c0, c1, c2, c3, c4, c5, c6, c7, c8⟩ := hA
  have HB := Lib.hid (Bl.refl W)
  rcases key with ⟨⟨y0, z0⟩, er⟩ | ⟨⟨y0, z0⟩, ⟨y1, z1⟩, er⟩ | ⟨⟨y0, z0⟩, ⟨y1, z1⟩, x2, er⟩ | ⟨⟨y0, z0⟩, ⟨y1, z1⟩, x2, x3, er⟩ | ⟨⟨y0, z0⟩, ⟨y1, z1⟩, x2, x3, x4, er⟩ | ⟨⟨y0, z0⟩, ⟨y1, z1⟩, x2, x3, x4, x5, x6, x7, er⟩ | ⟨⟨y0, z0⟩, ⟨y1, z1⟩, x2, x3, x4, x5, x6, x7, x8, er⟩ | ⟨⟨y0, z0⟩, ⟨y1, z1⟩, x2, x3, x4, x5, x6, x7, x8, er⟩
  all_goals
    go_enter Tryd.func9, Tryd.ntmps9
    go_wp2_with fail
    rw [← hW]
    go_wp2_with (first
      | (go_at_call 14; (refine (HC.out _).mono ?_); rintro r w1 ⟨rfl, m1⟩; replace HB := Lib.hid (HB.out.trans m1); clear m1 c0 c1 c2 c3 c4 c5 c6 c7 c8; obtain ⟨c0, c1, c2, c3, c4, c5, c6, c7, c8⟩ := HA.out.bl HB.out)
      | (go_at_call 16; (refine (HW.out _).mono ?_); rintro r w1 ⟨rfl, m1⟩; replace HB := Lib.hid (HB.out.trans m1); clear m1 c0 c1 c2 c3 c4 c5 c6 c7 c8; obtain ⟨c0, c1, c2, c3, c4, c5, c6, c7, c8⟩ := HA.out.bl HB.out)
      | (go_at_call 22; (refine (HS.out _).mono ?_); rintro r w1 ⟨rfl, m1⟩; replace HB := Lib.hid (HB.out.trans m1); clear m1 c0 c1 c2 c3 c4 c5 c6 c7 c8; obtain ⟨c0, c1, c2, c3, c4, c5, c6, c7, c8⟩ := HA.out.bl HB.out)
      | (go_at_call 23; (refine (HI.out _ _ _ (by assumption)).mono ?_); rintro r w1 ⟨rfl, rfl⟩)
      | (go_at_call 24; (refine (HY.out _ _ _ (by assumption)).mono ?_); rintro r w1 ⟨rfl, rfl⟩)
      | (go_at_call 25; (refine (HK.out _ (bW.trans HB.out)).mono ?_); rintro r w1 ⟨rfl, m1⟩; replace HB := Lib.hid (HB.out.trans m1); clear m1))
    go_ret
    exact ⟨ret_int er.out.symm, bW.trans HB.out⟩
theorem paths_4 (e : Eff) (hf : e.frm = 4) :
    (HasS e.st true ∧ Hid (ckE e = 3)) ∨
    (HasS e.st false ∧ isLev e.lo = false ∧ Hid (ckE e = 1)) ∨
    (HasS e.st false ∧ isLev e.lo = true ∧ isLev e.hi = false ∧ Hid (ckE e = 1)) ∨
    (HasS e.st false ∧ isLev e.lo = true ∧ isLev e.hi = true ∧ e.hi < e.lo ∧ Hid (ckE e = 1)) ∨
    (HasS e.st false ∧ isLev e.lo = true ∧ isLev e.hi = true ∧ e.lo ≤ e.hi ∧ isCy e.cyc = false ∧ Hid (ckE e = 1)) ∨
    (HasS e.st false ∧ isLev e.lo = true ∧ isLev e.hi = true ∧ e.lo ≤ e.hi ∧ isCy e.cyc = true ∧ e.wid < 0 ∧ Hid (ckE e = 1)) ∨
    (HasS e.st false ∧ isLev e.lo = true ∧ isLev e.hi = true ∧ e.lo ≤ e.hi ∧ isCy e.cyc = true ∧ 0 ≤ e.wid ∧ 1000 < e.wid ∧ Hid (ckE e = 1)) ∨
    (HasS e.st false ∧ isLev e.lo = true ∧ isLev e.hi = true ∧ e.lo ≤ e.hi ∧ isCy e.cyc = true ∧ 0 ≤ e.wid ∧ e.wid ≤ 1000 ∧ e.spr < -10000 ∧ Hid (ckE e = 1)) ∨
    (HasS e.st false ∧ isLev e.lo = true ∧ isLev e.hi = true ∧ e.lo ≤ e.hi ∧ isCy e.cyc = true ∧ 0 ≤ e.wid ∧ e.wid ≤ 1000 ∧ -10000 ≤ e.spr ∧ 10000 < e.spr ∧ Hid (ckE e = 1)) ∨
    (HasS e.st false ∧ isLev e.lo = true ∧ isLev e.hi = true ∧ e.lo ≤ e.hi ∧ isCy e.cyc = true ∧ 0 ≤ e.wid ∧ e.wid ≤ 1000 ∧ -10000 ≤ e.spr ∧ e.spr ≤ 10000 ∧ Hid (ckE e = 0)) := by
  by_cases a1 : e.st.length = 0
  case neg =>
    left; exact ⟨hasS_yes (by omega), by show _ = _; unfold ckE; rw [if_neg (by omega), if_pos (by omega)]⟩
  right
  by_cases a2 : 0 ≤ e.lo ∧ e.lo ≤ 65535
  case neg =>
    left; exact ⟨hasS_no (by omega), isLev_no a2, by show _ = _; unfold ckE; rw [if_neg (by omega), if_neg (by omega), if_pos (by omega)]⟩
  right
  by_cases a3 : 0 ≤ e.hi ∧ e.hi ≤ 65535
  case neg =>
    left; exact ⟨hasS_no (by omega), isLev_yes a2, isLev_no a3, by show _ = _; unfold ckE; rw [if_neg (by omega), if_neg (by omega), if_pos (by omega)]⟩
  right
  by_cases a4 : e.lo ≤ e.hi
  case neg =>
    left; exact ⟨hasS_no (by omega), isLev_yes a2, isLev_yes a3, by omega, by show _ = _; unfold ckE; rw [if_neg (by omega), if_neg (by omega), if_pos (by omega)]⟩
  right
  by_cases a5 : 1 ≤ e.cyc ∧ e.cyc ≤ 3600000
  case neg =>
    left; exact ⟨hasS_no (by omega), isLev_yes a2, isLev_yes a3, a4, isCy_no a5, by show _ = _; unfold ckE; rw [if_neg (by omega), if_neg (by omega), if_neg (by omega), if_pos (by omega)]⟩
  right
  by_cases a6 : 0 ≤ e.wid
  case neg =>
    left; exact ⟨hasS_no (by omega), isLev_yes a2, isLev_yes a3, a4, isCy_yes a5, by omega, by show _ = _; unfold ckE; rw [if_neg (by omega), if_neg (by omega), if_neg (by omega), if_pos (by omega)]⟩
  right
  by_cases a7 : e.wid ≤ 1000
  case neg =>
    left; exact ⟨hasS_no (by omega), isLev_yes a2, isLev_yes a3, a4, isCy_yes a5, a6, by omega, by show _ = _; unfold ckE; rw [if_neg (by omega), if_neg (by omega), if_neg (by omega), if_pos (by omega)]⟩
  right
  by_cases a8 : -10000 ≤ e.spr
  case neg =>
    left; exact ⟨hasS_no (by omega), isLev_yes a2, isLev_yes a3, a4, isCy_yes a5, a6, a7, by omega, by show _ = _; unfold ckE; rw [if_neg (by omega), if_neg (by omega), if_neg (by omega), if_pos (by omega)]⟩
  right
  by_cases a9 : e.spr ≤ 10000
  case neg =>
    left; exact ⟨hasS_no (by omega), isLev_yes a2, isLev_yes a3, a4, isCy_yes a5, a6, a7, a8, by omega, by show _ = _; unfold ckE; rw [if_neg (by omega), if_neg (by omega), if_neg (by omega), if_pos (by omega)]⟩
  right
  exact ⟨hasS_no (by omega), isLev_yes a2, isLev_yes a3, a4, isCy_yes a5, a6, a7, a8, a9, by show _ = _; unfold ckE; rw [if_neg (by omega), if_neg (by omega), if_neg (by omega), if_neg (by omega), if_neg (by omega)]⟩

set_option maxRecDepth 100000 in
set_option maxHeartbeats 12800000 in
theorem check_4 (e : Eff) (v : Value) (w : World) (hv : StpVal w v e.st) (hf : e.frm = 4) :
    Calls Tryd.prog 9 #[effV e v] w fun r w' => r = .returned (.int .i64 (ckE e)) ∧ Bl w w' := by
  have HV := Lib.hid hv
  obtain ⟨o, cap, rfl, _, hp⟩ := hv
  clear hp
  have bA : Hid (∀ W, W = w.alloc (.cells #[.int .i64 e.frm, .int .i64 e.lo, .int .i64 e.hi, .int .i64 e.cyc, .int .i64 e.wid, .int .i64 e.spr, .bool e.bk, .bool e.rl, .slice o e.st.length cap] 24) → Bl w W ∧ EffAt W w.heap.size e (.slice o e.st.length cap)) :=
    fun W h => by subst h; exact ⟨(Bl.refl w).alloc _, EffAt.new _ _ _ _⟩
  unfold effV
  have HC := Lib.hid (hasCycle_is e (.slice o e.st.length cap) true (by simp; omega))
  have HW := Lib.hid (hasWidth_is e (.slice o e.st.length cap) true (by simp; omega))
  have HS := Lib.hid (hasSteps_is e (.slice o e.st.length cap) false (by simp; omega))
  have f1 : 1 ≤ e.frm := by omega
  have f7 : e.frm ≤ 7 := by omega
  have HI := Lib.hid isLev_at
  have HY := Lib.hid isCycle_is
  have key := paths_4 e hf
  clear hf
  obtain ⟨W, hW⟩ : ∃ W, W = w.alloc (.cells #[.int .i64 e.frm, .int .i64 e.lo, .int .i64 e.hi, .int .i64 e.cyc, .int .i64 e.wid, .int .i64 e.spr, .bool e.bk, .bool e.rl, .slice o e.st.length cap] 24) := ⟨_, rfl⟩
  obtain ⟨bW, hA⟩ := bA.out W hW
  have HA := Lib.hid hA
  obtain ⟨c0, c1, c2, c3, c4, c5, c6, c7, c8⟩ := hA
  have HB := Lib.hid (Bl.refl W)
  rcases key with ⟨⟨y0, z0⟩, er⟩ | ⟨⟨y0, z0⟩, x1, er⟩ | ⟨⟨y0, z0⟩, x1, x2, er⟩ | ⟨⟨y0, z0⟩, x1, x2, x3, er⟩ | ⟨⟨y0, z0⟩, x1, x2, x3, x4, er⟩ | ⟨⟨y0, z0⟩, x1, x2, x3, x4, x5, er⟩ | ⟨⟨y0, z0⟩, x1, x2, x3, x4, x5, x6, er⟩ | ⟨⟨y0, z0⟩, x1, x2, x3, x4, x5, x6, x7, er⟩ | ⟨⟨y0, z0⟩, x1, x2, x3, x4, x5, x6, x7, x8, er⟩ | ⟨⟨y0, z0⟩, x1, x2, x3, x4, x5, x6, x7, x8, er⟩
  all_goals
    go_enter Tryd.func9, Tryd.ntmps9
    go_wp2_with fail
    rw [← hW]
    go_wp2_with (first
      | (go_at_call 14; (refine (HC.out _).mono ?_); rintro r w1 ⟨rfl, m1⟩; replace HB := Lib.hid (HB.out.trans m1); clear m1 c0 c1 c2 c3 c4 c5 c6 c7 c8; obtain ⟨c0, c1, c2, c3, c4, c5, c6, c7, c8⟩ := HA.out.bl HB.out)
      | (go_at_call 16; (refine (HW.out _).mono ?_); rintro r w1 ⟨rfl, m1⟩; replace HB := Lib.hid (HB.out.trans m1); clear m1 c0 c1 c2 c3 c4 c5 c6 c7 c8; obtain ⟨c0, c1, c2, c3, c4, c5, c6, c7, c8⟩ := HA.out.bl HB.out)
      | (go_at_call 22; (refine (HS.out _).mono ?_); rintro r w1 ⟨rfl, m1⟩; replace HB := Lib.hid (HB.out.trans m1); clear m1 c0 c1 c2 c3 c4 c5 c6 c7 c8; obtain ⟨c0, c1, c2, c3, c4, c5, c6, c7, c8⟩ := HA.out.bl HB.out)
      | (go_at_call 23; (refine (HI.out _ _ _ (by assumption)).mono ?_); rintro r w1 ⟨rfl, rfl⟩)
      | (go_at_call 24; (refine (HY.out _ _ _ (by assumption)).mono ?_); rintro r w1 ⟨rfl, rfl⟩))
    go_ret
    exact ⟨ret_int er.out.symm, bW.trans HB.out⟩
theorem paths_x (e : Eff) (hf : 1 ≤ e.frm ∧ e.frm ≤ 7 ∧ e.frm ≠ 7 ∧ e.frm ≠ 4) :
    (IsZ e.wid false ∧ Hid (ckE e = 3)) ∨
    (IsZ e.wid true ∧ HasS e.st true ∧ Hid (ckE e = 3)) ∨
    (IsZ e.wid true ∧ HasS e.st false ∧ isLev e.lo = false ∧ Hid (ckE e = 1)) ∨
    (IsZ e.wid true ∧ HasS e.st false ∧ isLev e.lo = true ∧ isLev e.hi = false ∧ Hid (ckE e = 1)) ∨
    (IsZ e.wid true ∧ HasS e.st false ∧ isLev e.lo = true ∧ isLev e.hi = true ∧ e.hi < e.lo ∧ Hid (ckE e = 1)) ∨
    (IsZ e.wid true ∧ HasS e.st false ∧ isLev e.lo = true ∧ isLev e.hi = true ∧ e.lo ≤ e.hi ∧ isCy e.cyc = false ∧ Hid (ckE e = 1)) ∨
    (IsZ e.wid true ∧ HasS e.st false ∧ isLev e.lo = true ∧ isLev e.hi = true ∧ e.lo ≤ e.hi ∧ isCy e.cyc = true ∧ 0 ≤ e.wid ∧ e.wid ≤ 1000 ∧ e.spr < -10000 ∧ Hid (ckE e = 1)) ∨
    (IsZ e.wid true ∧ HasS e.st false ∧ isLev e.lo = true ∧ isLev e.hi = true ∧ e.lo ≤ e.hi ∧ isCy e.cyc = true ∧ 0 ≤ e.wid ∧ e.wid ≤ 1000 ∧ -10000 ≤ e.spr ∧ 10000 < e.spr ∧ Hid (ckE e = 1)) ∨
    (IsZ e.wid true ∧ HasS e.st false ∧ isLev e.lo = true ∧ isLev e.hi = true ∧ e.lo ≤ e.hi ∧ isCy e.cyc = true ∧ 0 ≤ e.wid ∧ e.wid ≤ 1000 ∧ -10000 ≤ e.spr ∧ e.spr ≤ 10000 ∧ Hid (ckE e = 0)) := by
  by_cases a1 : e.wid = 0
  case neg =>
    left; exact ⟨isZ_no a1, by show _ = _; unfold ckE; rw [if_neg (by omega), if_pos (by omega)]⟩
  right
  by_cases a2 : e.st.length = 0
  case neg =>
    left; exact ⟨isZ_yes a1, hasS_yes (by omega), by show _ = _; unfold ckE; rw [if_neg (by omega), if_pos (by omega)]⟩
  right
  by_cases a3 : 0 ≤ e.lo ∧ e.lo ≤ 65535
  case neg =>
    left; exact ⟨isZ_yes a1, hasS_no (by omega), isLev_no a3, by show _ = _; unfold ckE; rw [if_neg (by omega), if_neg (by omega), if_pos (by omega)]⟩
  right
  by_cases a4 : 0 ≤ e.hi ∧ e.hi ≤ 65535
  case neg =>
    left; exact ⟨isZ_yes a1, hasS_no (by omega), isLev_yes a3, isLev_no a4, by show _ = _; unfold ckE; rw [if_neg (by omega), if_neg (by omega), if_pos (by omega)]⟩
  right
  by_cases a5 : e.lo ≤ e.hi
  case neg =>
    left; exact ⟨isZ_yes a1, hasS_no (by omega), isLev_yes a3, isLev_yes a4, by omega, by show _ = _; unfold ckE; rw [if_neg (by omega), if_neg (by omega), if_pos (by omega)]⟩
  right
  by_cases a6 : 1 ≤ e.cyc ∧ e.cyc ≤ 3600000
  case neg =>
    left; exact ⟨isZ_yes a1, hasS_no (by omega), isLev_yes a3, isLev_yes a4, a5, isCy_no a6, by show _ = _; unfold ckE; rw [if_neg (by omega), if_neg (by omega), if_neg (by omega), if_pos (by omega)]⟩
  right
  have a7 : 0 ≤ e.wid := by omega
  have a8 : e.wid ≤ 1000 := by omega
  by_cases a9 : -10000 ≤ e.spr
  case neg =>
    left; exact ⟨isZ_yes a1, hasS_no (by omega), isLev_yes a3, isLev_yes a4, a5, isCy_yes a6, a7, a8, by omega, by show _ = _; unfold ckE; rw [if_neg (by omega), if_neg (by omega), if_neg (by omega), if_pos (by omega)]⟩
  right
  by_cases a10 : e.spr ≤ 10000
  case neg =>
    left; exact ⟨isZ_yes a1, hasS_no (by omega), isLev_yes a3, isLev_yes a4, a5, isCy_yes a6, a7, a8, a9, by omega, by show _ = _; unfold ckE; rw [if_neg (by omega), if_neg (by omega), if_neg (by omega), if_pos (by omega)]⟩
  right
  exact ⟨isZ_yes a1, hasS_no (by omega), isLev_yes a3, isLev_yes a4, a5, isCy_yes a6, a7, a8, a9, a10, by show _ = _; unfold ckE; rw [if_neg (by omega), if_neg (by omega), if_neg (by omega), if_neg (by omega), if_neg (by omega)]⟩

set_option maxRecDepth 100000 in
set_option maxHeartbeats 12800000 in
theorem check_x (e : Eff) (v : Value) (w : World) (hv : StpVal w v e.st) (hf : 1 ≤ e.frm ∧ e.frm ≤ 7 ∧ e.frm ≠ 7 ∧ e.frm ≠ 4) :
    Calls Tryd.prog 9 #[effV e v] w fun r w' => r = .returned (.int .i64 (ckE e)) ∧ Bl w w' := by
  have HV := Lib.hid hv
  obtain ⟨o, cap, rfl, _, hp⟩ := hv
  clear hp
  have bA : Hid (∀ W, W = w.alloc (.cells #[.int .i64 e.frm, .int .i64 e.lo, .int .i64 e.hi, .int .i64 e.cyc, .int .i64 e.wid, .int .i64 e.spr, .bool e.bk, .bool e.rl, .slice o e.st.length cap] 24) → Bl w W ∧ EffAt W w.heap.size e (.slice o e.st.length cap)) :=
    fun W h => by subst h; exact ⟨(Bl.refl w).alloc _, EffAt.new _ _ _ _⟩
  unfold effV
  have HC := Lib.hid (hasCycle_is e (.slice o e.st.length cap) true (by simp; omega))
  have HW := Lib.hid (hasWidth_is e (.slice o e.st.length cap) false (by simp; omega))
  have HS := Lib.hid (hasSteps_is e (.slice o e.st.length cap) false (by simp; omega))
  have f1 : 1 ≤ e.frm := by omega
  have f7 : e.frm ≤ 7 := by omega
  have HI := Lib.hid isLev_at
  have HY := Lib.hid isCycle_is
  have key := paths_x e hf
  clear hf
  obtain ⟨W, hW⟩ : ∃ W, W = w.alloc (.cells #[.int .i64 e.frm, .int .i64 e.lo, .int .i64 e.hi, .int .i64 e.cyc, .int .i64 e.wid, .int .i64 e.spr, .bool e.bk, .bool e.rl, .slice o e.st.length cap] 24) := ⟨_, rfl⟩
  obtain ⟨bW, hA⟩ := bA.out W hW
  have HA := Lib.hid hA
  obtain ⟨c0, c1, c2, c3, c4, c5, c6, c7, c8⟩ := hA
  have HB := Lib.hid (Bl.refl W)
  rcases key with ⟨⟨y0, z0⟩, er⟩ | ⟨⟨y0, z0⟩, ⟨y1, z1⟩, er⟩ | ⟨⟨y0, z0⟩, ⟨y1, z1⟩, x2, er⟩ | ⟨⟨y0, z0⟩, ⟨y1, z1⟩, x2, x3, er⟩ | ⟨⟨y0, z0⟩, ⟨y1, z1⟩, x2, x3, x4, er⟩ | ⟨⟨y0, z0⟩, ⟨y1, z1⟩, x2, x3, x4, x5, er⟩ | ⟨⟨y0, z0⟩, ⟨y1, z1⟩, x2, x3, x4, x5, x6, x7, x8, er⟩ | ⟨⟨y0, z0⟩, ⟨y1, z1⟩, x2, x3, x4, x5, x6, x7, x8, x9, er⟩ | ⟨⟨y0, z0⟩, ⟨y1, z1⟩, x2, x3, x4, x5, x6, x7, x8, x9, er⟩
  all_goals
    go_enter Tryd.func9, Tryd.ntmps9
    go_wp2_with fail
    rw [← hW]
    go_wp2_with (first
      | (go_at_call 14; (refine (HC.out _).mono ?_); rintro r w1 ⟨rfl, m1⟩; replace HB := Lib.hid (HB.out.trans m1); clear m1 c0 c1 c2 c3 c4 c5 c6 c7 c8; obtain ⟨c0, c1, c2, c3, c4, c5, c6, c7, c8⟩ := HA.out.bl HB.out)
      | (go_at_call 16; (refine (HW.out _).mono ?_); rintro r w1 ⟨rfl, m1⟩; replace HB := Lib.hid (HB.out.trans m1); clear m1 c0 c1 c2 c3 c4 c5 c6 c7 c8; obtain ⟨c0, c1, c2, c3, c4, c5, c6, c7, c8⟩ := HA.out.bl HB.out)
      | (go_at_call 22; (refine (HS.out _).mono ?_); rintro r w1 ⟨rfl, m1⟩; replace HB := Lib.hid (HB.out.trans m1); clear m1 c0 c1 c2 c3 c4 c5 c6 c7 c8; obtain ⟨c0, c1, c2, c3, c4, c5, c6, c7, c8⟩ := HA.out.bl HB.out)
      | (go_at_call 23; (refine (HI.out _ _ _ (by assumption)).mono ?_); rintro r w1 ⟨rfl, rfl⟩)
      | (go_at_call 24; (refine (HY.out _ _ _ (by assumption)).mono ?_); rintro r w1 ⟨rfl, rfl⟩))
    go_ret
    exact ⟨ret_int er.out.symm, bW.trans HB.out⟩
end Go.Proofs.YtkllhockcnokeaaDoor
