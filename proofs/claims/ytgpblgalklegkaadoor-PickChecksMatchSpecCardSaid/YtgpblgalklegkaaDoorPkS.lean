/- checkPart of the reference: a part and its Args. -/
import Derived.Test.YtgpblgalklegkaaDoorPkR
import Derived.Test.YtgpblgalklegkaaDoorPkC
import Derived.Test.YtgpblgalklegkaaDoorWithI
namespace Go.Proofs.YtgpblgalklegkaaDoor
open Go.RowKit Go.Sort

theorem ck1_of {p : Pk} {k a b c d : Int} (hk : p.kind = k) (h1 : 1 ≤ k) (h9 : k ≤ 9) (hs : shp k = (a, b, c, d)) : ck1 p = ckS a b c d p.frm p.to p.args.length := by
  unfold ck1
  rw [hk, if_neg (by omega), hs]
theorem within_sure (n lo hi : Int) (v : Bool) (h : (decide (lo ≤ n) && decide (n ≤ hi)) = v) (w : World) :
    Calls Tryd.prog 51 #[.int .i64 n, .int .i64 lo, .int .i64 hi] w fun e w' => e = .returned (.bool v) ∧ w = w' := by
  subst h; exact within_any n lo hi w
theorem not_within {n lo hi : Int} (h : ¬ (lo ≤ n ∧ n ≤ hi)) : (decide (lo ≤ n) && decide (n ≤ hi)) = false := by
  rw [Bool.eq_false_iff]; intro hh; simp only [Bool.and_eq_true, decide_eq_true_eq] at hh; exact h hh
theorem is_within {n lo hi : Int} (h : lo ≤ n ∧ n ≤ hi) : (decide (lo ≤ n) && decide (n ≤ hi)) = true := by simp [h.1, h.2]

theorem used_1 (w : World) : Calls Tryd.prog 71 #[.int .i64 1] w fun e w' => e = .returned (.tuple #[.bool true, .bool true, .int .i64 (0)]) ∧ w = w' := by
  go_enter Tryd.func71, Tryd.ntmps71
  go_wp2
  go_returns
  exact ⟨rfl, rfl⟩
theorem used_2 (w : World) : Calls Tryd.prog 71 #[.int .i64 2] w fun e w' => e = .returned (.tuple #[.bool true, .bool false, .int .i64 (0)]) ∧ w = w' := by
  go_enter Tryd.func71, Tryd.ntmps71
  go_wp2
  go_returns
  exact ⟨rfl, rfl⟩
theorem used_3 (w : World) : Calls Tryd.prog 71 #[.int .i64 3] w fun e w' => e = .returned (.tuple #[.bool true, .bool false, .int .i64 (0)]) ∧ w = w' := by
  go_enter Tryd.func71, Tryd.ntmps71
  go_wp2
  go_returns
  exact ⟨rfl, rfl⟩
theorem used_4 (w : World) : Calls Tryd.prog 71 #[.int .i64 4] w fun e w' => e = .returned (.tuple #[.bool false, .bool false, .int .i64 (-1)]) ∧ w = w' := by
  go_enter Tryd.func71, Tryd.ntmps71
  go_wp2
  go_returns
  exact ⟨rfl, rfl⟩
theorem used_5 (w : World) : Calls Tryd.prog 71 #[.int .i64 5] w fun e w' => e = .returned (.tuple #[.bool false, .bool false, .int .i64 (2)]) ∧ w = w' := by
  go_enter Tryd.func71, Tryd.ntmps71
  go_wp2
  go_returns
  exact ⟨rfl, rfl⟩
theorem used_6 (w : World) : Calls Tryd.prog 71 #[.int .i64 6] w fun e w' => e = .returned (.tuple #[.bool false, .bool false, .int .i64 (1)]) ∧ w = w' := by
  go_enter Tryd.func71, Tryd.ntmps71
  go_wp2
  go_returns
  exact ⟨rfl, rfl⟩
theorem used_7 (w : World) : Calls Tryd.prog 71 #[.int .i64 7] w fun e w' => e = .returned (.tuple #[.bool false, .bool false, .int .i64 (1)]) ∧ w = w' := by
  go_enter Tryd.func71, Tryd.ntmps71
  go_wp2
  go_returns
  exact ⟨rfl, rfl⟩
theorem used_8 (w : World) : Calls Tryd.prog 71 #[.int .i64 8] w fun e w' => e = .returned (.tuple #[.bool false, .bool false, .int .i64 (1)]) ∧ w = w' := by
  go_enter Tryd.func71, Tryd.ntmps71
  go_wp2
  go_returns
  exact ⟨rfl, rfl⟩
theorem used_9 (w : World) : Calls Tryd.prog 71 #[.int .i64 9] w fun e w' => e = .returned (.tuple #[.bool true, .bool true, .int .i64 (1)]) ∧ w = w' := by
  go_enter Tryd.func71, Tryd.ntmps71
  go_wp2
  go_returns
  exact ⟨rfl, rfl⟩

theorem ckL_pre (d : Nat) (p : Pk) : ckL (preD (d + 1) p) = if ck1 p ≠ 0 then ck1 p else ckL (p.args.flatMap (preD d)) := rfl
theorem ckL_next (d : Nat) (l : List Pk) (j : Nat) (hj : j < l.length) : ckL ((l.drop j).flatMap (preD d)) = if ckL (preD d l[j]) ≠ 0 then ckL (preD d l[j]) else ckL ((l.drop (j + 1)).flatMap (preD d)) := by
  rw [List.drop_eq_getElem_cons hj, List.flatMap_cons, ckL_app]
theorem flat_mem (g : Pk → List Pk) : ∀ (l : List Pk) (a : Pk), a ∈ l → (g a).length ≤ (l.flatMap g).length
  | [], _, h => by cases h
  | x :: r, a, h => by
    rw [List.flatMap_cons, List.length_append]
    rcases List.mem_cons.1 h with rfl | h
    · omega
    · have := flat_mem g r a h; omega
theorem pre_len (d : Nat) (p : Pk) (j : Nat) (hj : j < p.args.length) : (preD d p.args[j]).length < (preD (d + 1) p).length :=
  Nat.lt_succ_of_le (flat_mem (preD d) p.args _ (List.getElem_mem hj))
theorem args_len (d : Nat) : ∀ (l : List Pk), l.all (okD d) = true → l.length ≤ (l.flatMap (preD d)).length
  | [], _ => by simp
  | x :: r, h => by
    rw [List.all_cons, Bool.and_eq_true] at h
    have h1 := args_len d r h.2
    have h2 : 1 ≤ (preD d x).length := by
      cases d with
      | zero => cases h.1
      | succ d => show 1 ≤ (x :: _).length; simp
    rw [List.flatMap_cons, List.length_append, List.length_cons]; omega
/-- What checkPart of the reference says of an Arg. -/
def ArgOk (d : Nat) : Prop := ∀ (p : Pk) (sv : Value) (w : World), PkV w sv p.args → okD d p = true → (preD d p).length ≤ 200 →
    Calls Tryd.prog 34 #[.agg #[.int .i64 p.kind, .int .i64 p.frm, .int .i64 p.to, sv]] w fun e w' => e = .returned (.int .i64 (ckL (preD d p))) ∧ Bl w w'

set_option maxRecDepth 100000 in
set_option maxHeartbeats 6400000 in
theorem ckpR_1 (d : Nat) (p : Pk) (o : Option Addr) (cap : Nat) (w : World) (ih : ArgOk d) (hsv : PkV w (.slice o p.args.length cap) p.args) (hk : p.kind = 1) (hok : okD (d + 1) p = true) (hln : (preD (d + 1) p).length ≤ 200) :
    Calls Tryd.prog 34 #[.agg #[.int .i64 1, .int .i64 p.frm, .int .i64 p.to, .slice o p.args.length cap]] w fun e w' => e = .returned (.int .i64 (ckL (preD (d + 1) p))) ∧ Bl w w' := by
  have hC := ck1_of hk (by omega) (by omega) (show shp 1 = (9999, 9999, 0, 0) from rfl)
  have h200 : p.args.length ≤ 200 := by have h1 := args_len d p.args hok; have h2 : (preD (d + 1) p).length = (p.args.flatMap (preD d)).length + 1 := rfl; omega
  have HK := Lib.hid (fun w' => within_sure 1 1 9 true (by decide) w')
  have HU := Lib.hid (fun w' => used_1 w')
  by_cases cN : p.args.length = 0
  rotate_left
  · have N3 : ((p.args.length : Int) != 0) = true := by rw [bne_iff_ne]; omega
    have e : Hid (ckL (preD (d + 1) p) = 3) := by
      show _ = _
      have h : ck1 p = 3 := by rw [hC]; unfold ckS; (repeat' split) <;> omega
      rw [ckL_pre, h]; rfl
    clear hC hok hln ih hsv h200 cN
    generalize p.frm = f at *
    generalize p.to = t at *
    generalize p.args.length = n at *
    go_enter Tryd.func34, Tryd.ntmps34
    go_wp2_with fail
    refine (HK.out _).mono ?_
    rintro e' w1 ⟨rfl, rfl⟩
    go_wp2_with fail
    refine (HU.out _).mono ?_
    rintro e' w1 ⟨rfl, rfl⟩
    go_wp2_with fail
    go_returns
    exact ⟨ret_int e.out.symm, (Bl.refl w).alloc _⟩
  have N3 : ((p.args.length : Int) != 0) = false := by rw [bne_eq_false_iff_eq]; omega
  by_cases rF : 1 ≤ p.frm ∧ p.frm ≤ 9999
  rotate_left
  · have HF := Lib.hid (fun w' => within_sure p.frm 1 9999 false (not_within rF) w')
    have e : Hid (ckL (preD (d + 1) p) = 1) := by
      show _ = _
      have h : ck1 p = 1 := by rw [hC]; unfold ckS; (repeat' split) <;> omega
      rw [ckL_pre, h]; rfl
    clear hC hok hln ih hsv h200 cN rF
    generalize p.frm = f at *
    generalize p.to = t at *
    generalize p.args.length = n at *
    go_enter Tryd.func34, Tryd.ntmps34
    go_wp2_with fail
    refine (HK.out _).mono ?_
    rintro e' w1 ⟨rfl, rfl⟩
    go_wp2_with fail
    refine (HU.out _).mono ?_
    rintro e' w1 ⟨rfl, rfl⟩
    go_wp2_with fail
    refine (HF.out _).mono ?_
    rintro e' w1 ⟨rfl, rfl⟩
    go_wp2_with fail
    go_returns
    exact ⟨ret_int e.out.symm, (Bl.refl w).alloc _⟩
  have HF := Lib.hid (fun w' => within_sure p.frm 1 9999 true (is_within rF) w')
  by_cases rT : 1 ≤ p.to ∧ p.to ≤ 9999
  rotate_left
  · have HT := Lib.hid (fun w' => within_sure p.to 1 9999 false (not_within rT) w')
    have e : Hid (ckL (preD (d + 1) p) = 1) := by
      show _ = _
      have h : ck1 p = 1 := by rw [hC]; unfold ckS; (repeat' split) <;> omega
      rw [ckL_pre, h]; rfl
    clear hC hok hln ih hsv h200 cN rF rT
    generalize p.frm = f at *
    generalize p.to = t at *
    generalize p.args.length = n at *
    go_enter Tryd.func34, Tryd.ntmps34
    go_wp2_with fail
    refine (HK.out _).mono ?_
    rintro e' w1 ⟨rfl, rfl⟩
    go_wp2_with fail
    refine (HU.out _).mono ?_
    rintro e' w1 ⟨rfl, rfl⟩
    go_wp2_with fail
    refine (HF.out _).mono ?_
    rintro e' w1 ⟨rfl, rfl⟩
    go_wp2_with fail
    refine (HT.out _).mono ?_
    rintro e' w1 ⟨rfl, rfl⟩
    go_wp2_with fail
    go_returns
    exact ⟨ret_int e.out.symm, (Bl.refl w).alloc _⟩
  have HT := Lib.hid (fun w' => within_sure p.to 1 9999 true (is_within rT) w')
  have HE : Hid (ckL (preD (d + 1) p) = ckL (p.args.flatMap (preD d))) := by
    show _ = _
    have h : ck1 p = 0 := by rw [hC]; unfold ckS; (repeat' split) <;> omega
    rw [ckL_pre, h]; rfl
  have HO := Lib.hid (List.all_eq_true.1 (show p.args.all (okD d) = true from hok))
  have HLN := Lib.hid (fun j hj => Nat.le_trans (Nat.le_of_lt (pre_len d p j hj)) hln)
  have IH := Lib.hid ih
  have HS := Lib.hid hsv
  have HN := Lib.hid (fun j hj => ckL_next d p.args j hj)
  obtain ⟨X, hX⟩ : ∃ X, ckL (preD (d + 1) p) = X := ⟨_, rfl⟩
  rw [hX] at HE
  rw [hX]
  clear hX hC hok hln ih hsv cN rF rT
  generalize p.frm = f at *
  generalize p.to = t at *
  go_enter Tryd.func34, Tryd.ntmps34
  go_wp2_with fail
  refine (HK.out _).mono ?_
  rintro e' w1 ⟨rfl, rfl⟩
  go_wp2_with fail
  refine (HU.out _).mono ?_
  rintro e' w1 ⟨rfl, rfl⟩
  go_wp2_with fail
  refine (HF.out _).mono ?_
  rintro e' w1 ⟨rfl, rfl⟩
  go_wp2_with fail
  refine (HT.out _).mono ?_
  rintro e' w1 ⟨rfl, rfl⟩
  go_wp2_with fail
  go_loopw [84] (fun v84 wr => ∃ j : Nat, j ≤ p.args.length ∧ v84 = .int .i64 j ∧ Hid (X = ckL ((p.args.drop j).flatMap (preD d))) ∧ Bl w wr) (fun v84 _ => p.args.length - (intOf v84).toNat)
  case atStart => exact ⟨0, Nat.zero_le _, rfl, by show _ = _; rw [HE.out, List.drop_zero], (Bl.refl w).alloc _⟩
  case round =>
    obtain ⟨j, hj, rfl, hx, hb⟩ := hrel
    by_cases hlt : j < p.args.length
    · obtain ⟨b, off, sv, rfl, ⟨c0, c1, c2, c3⟩, hsv⟩ := HS.out.at j hlt
      have c0 := hb.cell c0
      have c1 := hb.cell c1
      have c2 := hb.cell c2
      have c3 := hb.cell c3
      obtain ⟨o4, cap4, hsv4, hm4⟩ := hsv.form
      have st := Lib.hid (HN.out j hlt)
      have q1 := HO.out p.args[j] (List.getElem_mem hlt)
      have q2 := HLN.out j hlt
      obtain ⟨a, ha⟩ : ∃ a, a = p.args[j] := ⟨_, rfl⟩
      rw [← ha] at c0 c1 c2 hsv st hsv4 hm4 q1 q2
      subst hsv4
      have HC := Lib.hid (IH.out a _ _ (hsv.bl (hb.alloc (.cells #[.int .i64 a.kind, .int .i64 a.frm, .int .i64 a.to, .slice o4 a.args.length cap4] 24))) q1 q2)
      clear ha hsv q1 q2
      by_cases hz : ckL (preD d a) = 0
      · have hn : Hid (X = ckL ((p.args.drop (j + 1)).flatMap (preD d))) := by show _ = _; rw [hx.out, st.out]; exact if_neg (fun h => h hz)
        rw [hz] at HC
        clear hz
        go_wp2_with fail
        refine HC.out.mono ?_
        rintro e1 w2 ⟨rfl, b2⟩
        go_wp2_with fail
        go_roundw
        case rel => exact ⟨j + 1, by omega, by go_num, hn, (hb.alloc _).trans b2⟩
        case measure => simp [intOf]; omega
      · have hn : Hid (X = ckL (preD d a)) := by show _ = _; rw [hx.out, st.out]; exact if_pos hz
        have t1 : (ckL (preD d a) != 0) = true := by simpa using hz
        generalize ckL (preD d a) = Y at *
        clear hz
        go_wp2_with fail
        refine HC.out.mono ?_
        rintro e1 w2 ⟨rfl, b2⟩
        go_wp2_with fail
        go_returns
        exact ⟨ret_int hn.out.symm, (hb.alloc _).trans b2⟩
    · obtain rfl : j = p.args.length := by omega
      have hn : Hid (X = 0) := by show _ = _; rw [hx.out, List.drop_length]; rfl
      go_wp2_with fail
      go_returns
      exact ⟨ret_int hn.out.symm, hb⟩

set_option maxRecDepth 100000 in
set_option maxHeartbeats 6400000 in
theorem ckpR_2 (d : Nat) (p : Pk) (o : Option Addr) (cap : Nat) (w : World) (ih : ArgOk d) (hsv : PkV w (.slice o p.args.length cap) p.args) (hk : p.kind = 2) (hok : okD (d + 1) p = true) (hln : (preD (d + 1) p).length ≤ 200) :
    Calls Tryd.prog 34 #[.agg #[.int .i64 2, .int .i64 p.frm, .int .i64 p.to, .slice o p.args.length cap]] w fun e w' => e = .returned (.int .i64 (ckL (preD (d + 1) p))) ∧ Bl w w' := by
  have hC := ck1_of hk (by omega) (by omega) (show shp 2 = (999, 0, 0, 0) from rfl)
  have h200 : p.args.length ≤ 200 := by have h1 := args_len d p.args hok; have h2 : (preD (d + 1) p).length = (p.args.flatMap (preD d)).length + 1 := rfl; omega
  have HK := Lib.hid (fun w' => within_sure 2 1 9 true (by decide) w')
  have HU := Lib.hid (fun w' => used_2 w')
  by_cases cT : p.to = 0
  rotate_left
  · have T3 : (p.to != 0) = true := by simpa using cT
    have e : Hid (ckL (preD (d + 1) p) = 3) := by
      show _ = _
      have h : ck1 p = 3 := by rw [hC]; unfold ckS; (repeat' split) <;> omega
      rw [ckL_pre, h]; rfl
    clear hC hok hln ih hsv h200 cT
    generalize p.frm = f at *
    generalize p.to = t at *
    generalize p.args.length = n at *
    go_enter Tryd.func34, Tryd.ntmps34
    go_wp2_with fail
    refine (HK.out _).mono ?_
    rintro e' w1 ⟨rfl, rfl⟩
    go_wp2_with fail
    refine (HU.out _).mono ?_
    rintro e' w1 ⟨rfl, rfl⟩
    go_wp2_with fail
    go_returns
    exact ⟨ret_int e.out.symm, (Bl.refl w).alloc _⟩
  have T3 : (p.to != 0) = false := by simpa using cT
  by_cases cN : p.args.length = 0
  rotate_left
  · have N3 : ((p.args.length : Int) != 0) = true := by rw [bne_iff_ne]; omega
    have e : Hid (ckL (preD (d + 1) p) = 3) := by
      show _ = _
      have h : ck1 p = 3 := by rw [hC]; unfold ckS; (repeat' split) <;> omega
      rw [ckL_pre, h]; rfl
    clear hC hok hln ih hsv h200 cT cN
    generalize p.frm = f at *
    generalize p.to = t at *
    generalize p.args.length = n at *
    go_enter Tryd.func34, Tryd.ntmps34
    go_wp2_with fail
    refine (HK.out _).mono ?_
    rintro e' w1 ⟨rfl, rfl⟩
    go_wp2_with fail
    refine (HU.out _).mono ?_
    rintro e' w1 ⟨rfl, rfl⟩
    go_wp2_with fail
    go_returns
    exact ⟨ret_int e.out.symm, (Bl.refl w).alloc _⟩
  have N3 : ((p.args.length : Int) != 0) = false := by rw [bne_eq_false_iff_eq]; omega
  by_cases rF : 1 ≤ p.frm ∧ p.frm ≤ 999
  rotate_left
  · have HF := Lib.hid (fun w' => within_sure p.frm 1 999 false (not_within rF) w')
    have e : Hid (ckL (preD (d + 1) p) = 1) := by
      show _ = _
      have h : ck1 p = 1 := by rw [hC]; unfold ckS; (repeat' split) <;> omega
      rw [ckL_pre, h]; rfl
    clear hC hok hln ih hsv h200 cT cN rF
    generalize p.frm = f at *
    generalize p.to = t at *
    generalize p.args.length = n at *
    go_enter Tryd.func34, Tryd.ntmps34
    go_wp2_with fail
    refine (HK.out _).mono ?_
    rintro e' w1 ⟨rfl, rfl⟩
    go_wp2_with fail
    refine (HU.out _).mono ?_
    rintro e' w1 ⟨rfl, rfl⟩
    go_wp2_with fail
    refine (HF.out _).mono ?_
    rintro e' w1 ⟨rfl, rfl⟩
    go_wp2_with fail
    go_returns
    exact ⟨ret_int e.out.symm, (Bl.refl w).alloc _⟩
  have HF := Lib.hid (fun w' => within_sure p.frm 1 999 true (is_within rF) w')
  have HE : Hid (ckL (preD (d + 1) p) = ckL (p.args.flatMap (preD d))) := by
    show _ = _
    have h : ck1 p = 0 := by rw [hC]; unfold ckS; (repeat' split) <;> omega
    rw [ckL_pre, h]; rfl
  have HO := Lib.hid (List.all_eq_true.1 (show p.args.all (okD d) = true from hok))
  have HLN := Lib.hid (fun j hj => Nat.le_trans (Nat.le_of_lt (pre_len d p j hj)) hln)
  have IH := Lib.hid ih
  have HS := Lib.hid hsv
  have HN := Lib.hid (fun j hj => ckL_next d p.args j hj)
  obtain ⟨X, hX⟩ : ∃ X, ckL (preD (d + 1) p) = X := ⟨_, rfl⟩
  rw [hX] at HE
  rw [hX]
  clear hX hC hok hln ih hsv cT cN rF
  generalize p.frm = f at *
  generalize p.to = t at *
  go_enter Tryd.func34, Tryd.ntmps34
  go_wp2_with fail
  refine (HK.out _).mono ?_
  rintro e' w1 ⟨rfl, rfl⟩
  go_wp2_with fail
  refine (HU.out _).mono ?_
  rintro e' w1 ⟨rfl, rfl⟩
  go_wp2_with fail
  refine (HF.out _).mono ?_
  rintro e' w1 ⟨rfl, rfl⟩
  go_wp2_with fail
  go_loopw [84] (fun v84 wr => ∃ j : Nat, j ≤ p.args.length ∧ v84 = .int .i64 j ∧ Hid (X = ckL ((p.args.drop j).flatMap (preD d))) ∧ Bl w wr) (fun v84 _ => p.args.length - (intOf v84).toNat)
  case atStart => exact ⟨0, Nat.zero_le _, rfl, by show _ = _; rw [HE.out, List.drop_zero], (Bl.refl w).alloc _⟩
  case round =>
    obtain ⟨j, hj, rfl, hx, hb⟩ := hrel
    by_cases hlt : j < p.args.length
    · obtain ⟨b, off, sv, rfl, ⟨c0, c1, c2, c3⟩, hsv⟩ := HS.out.at j hlt
      have c0 := hb.cell c0
      have c1 := hb.cell c1
      have c2 := hb.cell c2
      have c3 := hb.cell c3
      obtain ⟨o4, cap4, hsv4, hm4⟩ := hsv.form
      have st := Lib.hid (HN.out j hlt)
      have q1 := HO.out p.args[j] (List.getElem_mem hlt)
      have q2 := HLN.out j hlt
      obtain ⟨a, ha⟩ : ∃ a, a = p.args[j] := ⟨_, rfl⟩
      rw [← ha] at c0 c1 c2 hsv st hsv4 hm4 q1 q2
      subst hsv4
      have HC := Lib.hid (IH.out a _ _ (hsv.bl (hb.alloc (.cells #[.int .i64 a.kind, .int .i64 a.frm, .int .i64 a.to, .slice o4 a.args.length cap4] 24))) q1 q2)
      clear ha hsv q1 q2
      by_cases hz : ckL (preD d a) = 0
      · have hn : Hid (X = ckL ((p.args.drop (j + 1)).flatMap (preD d))) := by show _ = _; rw [hx.out, st.out]; exact if_neg (fun h => h hz)
        rw [hz] at HC
        clear hz
        go_wp2_with fail
        refine HC.out.mono ?_
        rintro e1 w2 ⟨rfl, b2⟩
        go_wp2_with fail
        go_roundw
        case rel => exact ⟨j + 1, by omega, by go_num, hn, (hb.alloc _).trans b2⟩
        case measure => simp [intOf]; omega
      · have hn : Hid (X = ckL (preD d a)) := by show _ = _; rw [hx.out, st.out]; exact if_pos hz
        have t1 : (ckL (preD d a) != 0) = true := by simpa using hz
        generalize ckL (preD d a) = Y at *
        clear hz
        go_wp2_with fail
        refine HC.out.mono ?_
        rintro e1 w2 ⟨rfl, b2⟩
        go_wp2_with fail
        go_returns
        exact ⟨ret_int hn.out.symm, (hb.alloc _).trans b2⟩
    · obtain rfl : j = p.args.length := by omega
      have hn : Hid (X = 0) := by show _ = _; rw [hx.out, List.drop_length]; rfl
      go_wp2_with fail
      go_returns
      exact ⟨ret_int hn.out.symm, hb⟩

set_option maxRecDepth 100000 in
set_option maxHeartbeats 6400000 in
theorem ckpR_3 (d : Nat) (p : Pk) (o : Option Addr) (cap : Nat) (w : World) (ih : ArgOk d) (hsv : PkV w (.slice o p.args.length cap) p.args) (hk : p.kind = 3) (hok : okD (d + 1) p = true) (hln : (preD (d + 1) p).length ≤ 200) :
    Calls Tryd.prog 34 #[.agg #[.int .i64 3, .int .i64 p.frm, .int .i64 p.to, .slice o p.args.length cap]] w fun e w' => e = .returned (.int .i64 (ckL (preD (d + 1) p))) ∧ Bl w w' := by
  have hC := ck1_of hk (by omega) (by omega) (show shp 3 = (999, 0, 0, 0) from rfl)
  have h200 : p.args.length ≤ 200 := by have h1 := args_len d p.args hok; have h2 : (preD (d + 1) p).length = (p.args.flatMap (preD d)).length + 1 := rfl; omega
  have HK := Lib.hid (fun w' => within_sure 3 1 9 true (by decide) w')
  have HU := Lib.hid (fun w' => used_3 w')
  by_cases cT : p.to = 0
  rotate_left
  · have T3 : (p.to != 0) = true := by simpa using cT
    have e : Hid (ckL (preD (d + 1) p) = 3) := by
      show _ = _
      have h : ck1 p = 3 := by rw [hC]; unfold ckS; (repeat' split) <;> omega
      rw [ckL_pre, h]; rfl
    clear hC hok hln ih hsv h200 cT
    generalize p.frm = f at *
    generalize p.to = t at *
    generalize p.args.length = n at *
    go_enter Tryd.func34, Tryd.ntmps34
    go_wp2_with fail
    refine (HK.out _).mono ?_
    rintro e' w1 ⟨rfl, rfl⟩
    go_wp2_with fail
    refine (HU.out _).mono ?_
    rintro e' w1 ⟨rfl, rfl⟩
    go_wp2_with fail
    go_returns
    exact ⟨ret_int e.out.symm, (Bl.refl w).alloc _⟩
  have T3 : (p.to != 0) = false := by simpa using cT
  by_cases cN : p.args.length = 0
  rotate_left
  · have N3 : ((p.args.length : Int) != 0) = true := by rw [bne_iff_ne]; omega
    have e : Hid (ckL (preD (d + 1) p) = 3) := by
      show _ = _
      have h : ck1 p = 3 := by rw [hC]; unfold ckS; (repeat' split) <;> omega
      rw [ckL_pre, h]; rfl
    clear hC hok hln ih hsv h200 cT cN
    generalize p.frm = f at *
    generalize p.to = t at *
    generalize p.args.length = n at *
    go_enter Tryd.func34, Tryd.ntmps34
    go_wp2_with fail
    refine (HK.out _).mono ?_
    rintro e' w1 ⟨rfl, rfl⟩
    go_wp2_with fail
    refine (HU.out _).mono ?_
    rintro e' w1 ⟨rfl, rfl⟩
    go_wp2_with fail
    go_returns
    exact ⟨ret_int e.out.symm, (Bl.refl w).alloc _⟩
  have N3 : ((p.args.length : Int) != 0) = false := by rw [bne_eq_false_iff_eq]; omega
  by_cases rF : 1 ≤ p.frm ∧ p.frm ≤ 999
  rotate_left
  · have HF := Lib.hid (fun w' => within_sure p.frm 1 999 false (not_within rF) w')
    have e : Hid (ckL (preD (d + 1) p) = 1) := by
      show _ = _
      have h : ck1 p = 1 := by rw [hC]; unfold ckS; (repeat' split) <;> omega
      rw [ckL_pre, h]; rfl
    clear hC hok hln ih hsv h200 cT cN rF
    generalize p.frm = f at *
    generalize p.to = t at *
    generalize p.args.length = n at *
    go_enter Tryd.func34, Tryd.ntmps34
    go_wp2_with fail
    refine (HK.out _).mono ?_
    rintro e' w1 ⟨rfl, rfl⟩
    go_wp2_with fail
    refine (HU.out _).mono ?_
    rintro e' w1 ⟨rfl, rfl⟩
    go_wp2_with fail
    refine (HF.out _).mono ?_
    rintro e' w1 ⟨rfl, rfl⟩
    go_wp2_with fail
    go_returns
    exact ⟨ret_int e.out.symm, (Bl.refl w).alloc _⟩
  have HF := Lib.hid (fun w' => within_sure p.frm 1 999 true (is_within rF) w')
  have HE : Hid (ckL (preD (d + 1) p) = ckL (p.args.flatMap (preD d))) := by
    show _ = _
    have h : ck1 p = 0 := by rw [hC]; unfold ckS; (repeat' split) <;> omega
    rw [ckL_pre, h]; rfl
  have HO := Lib.hid (List.all_eq_true.1 (show p.args.all (okD d) = true from hok))
  have HLN := Lib.hid (fun j hj => Nat.le_trans (Nat.le_of_lt (pre_len d p j hj)) hln)
  have IH := Lib.hid ih
  have HS := Lib.hid hsv
  have HN := Lib.hid (fun j hj => ckL_next d p.args j hj)
  obtain ⟨X, hX⟩ : ∃ X, ckL (preD (d + 1) p) = X := ⟨_, rfl⟩
  rw [hX] at HE
  rw [hX]
  clear hX hC hok hln ih hsv cT cN rF
  generalize p.frm = f at *
  generalize p.to = t at *
  go_enter Tryd.func34, Tryd.ntmps34
  go_wp2_with fail
  refine (HK.out _).mono ?_
  rintro e' w1 ⟨rfl, rfl⟩
  go_wp2_with fail
  refine (HU.out _).mono ?_
  rintro e' w1 ⟨rfl, rfl⟩
  go_wp2_with fail
  refine (HF.out _).mono ?_
  rintro e' w1 ⟨rfl, rfl⟩
  go_wp2_with fail
  go_loopw [84] (fun v84 wr => ∃ j : Nat, j ≤ p.args.length ∧ v84 = .int .i64 j ∧ Hid (X = ckL ((p.args.drop j).flatMap (preD d))) ∧ Bl w wr) (fun v84 _ => p.args.length - (intOf v84).toNat)
  case atStart => exact ⟨0, Nat.zero_le _, rfl, by show _ = _; rw [HE.out, List.drop_zero], (Bl.refl w).alloc _⟩
  case round =>
    obtain ⟨j, hj, rfl, hx, hb⟩ := hrel
    by_cases hlt : j < p.args.length
    · obtain ⟨b, off, sv, rfl, ⟨c0, c1, c2, c3⟩, hsv⟩ := HS.out.at j hlt
      have c0 := hb.cell c0
      have c1 := hb.cell c1
      have c2 := hb.cell c2
      have c3 := hb.cell c3
      obtain ⟨o4, cap4, hsv4, hm4⟩ := hsv.form
      have st := Lib.hid (HN.out j hlt)
      have q1 := HO.out p.args[j] (List.getElem_mem hlt)
      have q2 := HLN.out j hlt
      obtain ⟨a, ha⟩ : ∃ a, a = p.args[j] := ⟨_, rfl⟩
      rw [← ha] at c0 c1 c2 hsv st hsv4 hm4 q1 q2
      subst hsv4
      have HC := Lib.hid (IH.out a _ _ (hsv.bl (hb.alloc (.cells #[.int .i64 a.kind, .int .i64 a.frm, .int .i64 a.to, .slice o4 a.args.length cap4] 24))) q1 q2)
      clear ha hsv q1 q2
      by_cases hz : ckL (preD d a) = 0
      · have hn : Hid (X = ckL ((p.args.drop (j + 1)).flatMap (preD d))) := by show _ = _; rw [hx.out, st.out]; exact if_neg (fun h => h hz)
        rw [hz] at HC
        clear hz
        go_wp2_with fail
        refine HC.out.mono ?_
        rintro e1 w2 ⟨rfl, b2⟩
        go_wp2_with fail
        go_roundw
        case rel => exact ⟨j + 1, by omega, by go_num, hn, (hb.alloc _).trans b2⟩
        case measure => simp [intOf]; omega
      · have hn : Hid (X = ckL (preD d a)) := by show _ = _; rw [hx.out, st.out]; exact if_pos hz
        have t1 : (ckL (preD d a) != 0) = true := by simpa using hz
        generalize ckL (preD d a) = Y at *
        clear hz
        go_wp2_with fail
        refine HC.out.mono ?_
        rintro e1 w2 ⟨rfl, b2⟩
        go_wp2_with fail
        go_returns
        exact ⟨ret_int hn.out.symm, (hb.alloc _).trans b2⟩
    · obtain rfl : j = p.args.length := by omega
      have hn : Hid (X = 0) := by show _ = _; rw [hx.out, List.drop_length]; rfl
      go_wp2_with fail
      go_returns
      exact ⟨ret_int hn.out.symm, hb⟩

set_option maxRecDepth 100000 in
set_option maxHeartbeats 6400000 in
theorem ckpR_4 (d : Nat) (p : Pk) (o : Option Addr) (cap : Nat) (w : World) (ih : ArgOk d) (hsv : PkV w (.slice o p.args.length cap) p.args) (hk : p.kind = 4) (hok : okD (d + 1) p = true) (hln : (preD (d + 1) p).length ≤ 200) :
    Calls Tryd.prog 34 #[.agg #[.int .i64 4, .int .i64 p.frm, .int .i64 p.to, .slice o p.args.length cap]] w fun e w' => e = .returned (.int .i64 (ckL (preD (d + 1) p))) ∧ Bl w w' := by
  have hC := ck1_of hk (by omega) (by omega) (show shp 4 = (0, 0, 2, 200) from rfl)
  have h200 : p.args.length ≤ 200 := by have h1 := args_len d p.args hok; have h2 : (preD (d + 1) p).length = (p.args.flatMap (preD d)).length + 1 := rfl; omega
  have HK := Lib.hid (fun w' => within_sure 4 1 9 true (by decide) w')
  have HU := Lib.hid (fun w' => used_4 w')
  by_cases cF : p.frm = 0
  rotate_left
  · have F3 : (p.frm != 0) = true := by simpa using cF
    have e : Hid (ckL (preD (d + 1) p) = 3) := by
      show _ = _
      have h : ck1 p = 3 := by rw [hC]; unfold ckS; (repeat' split) <;> omega
      rw [ckL_pre, h]; rfl
    clear hC hok hln ih hsv h200 cF
    generalize p.frm = f at *
    generalize p.to = t at *
    generalize p.args.length = n at *
    go_enter Tryd.func34, Tryd.ntmps34
    go_wp2_with fail
    refine (HK.out _).mono ?_
    rintro e' w1 ⟨rfl, rfl⟩
    go_wp2_with fail
    refine (HU.out _).mono ?_
    rintro e' w1 ⟨rfl, rfl⟩
    go_wp2_with fail
    go_returns
    exact ⟨ret_int e.out.symm, (Bl.refl w).alloc _⟩
  have F3 : (p.frm != 0) = false := by simpa using cF
  by_cases cT : p.to = 0
  rotate_left
  · have T3 : (p.to != 0) = true := by simpa using cT
    have e : Hid (ckL (preD (d + 1) p) = 3) := by
      show _ = _
      have h : ck1 p = 3 := by rw [hC]; unfold ckS; (repeat' split) <;> omega
      rw [ckL_pre, h]; rfl
    clear hC hok hln ih hsv h200 cF cT
    generalize p.frm = f at *
    generalize p.to = t at *
    generalize p.args.length = n at *
    go_enter Tryd.func34, Tryd.ntmps34
    go_wp2_with fail
    refine (HK.out _).mono ?_
    rintro e' w1 ⟨rfl, rfl⟩
    go_wp2_with fail
    refine (HU.out _).mono ?_
    rintro e' w1 ⟨rfl, rfl⟩
    go_wp2_with fail
    go_returns
    exact ⟨ret_int e.out.symm, (Bl.refl w).alloc _⟩
  have T3 : (p.to != 0) = false := by simpa using cT
  by_cases cN : p.args.length < 2
  · have N3 : (p.args.length : Int) < 2 := by omega
    have e : Hid (ckL (preD (d + 1) p) = 3) := by
      show _ = _
      have h : ck1 p = 3 := by rw [hC]; unfold ckS; (repeat' split) <;> omega
      rw [ckL_pre, h]; rfl
    clear hC hok hln ih hsv h200 cF cT cN
    generalize p.frm = f at *
    generalize p.to = t at *
    generalize p.args.length = n at *
    go_enter Tryd.func34, Tryd.ntmps34
    go_wp2_with fail
    refine (HK.out _).mono ?_
    rintro e' w1 ⟨rfl, rfl⟩
    go_wp2_with fail
    refine (HU.out _).mono ?_
    rintro e' w1 ⟨rfl, rfl⟩
    go_wp2_with fail
    go_returns
    exact ⟨ret_int e.out.symm, (Bl.refl w).alloc _⟩
  have N3 : ¬ (p.args.length : Int) < 2 := by omega
  have HE : Hid (ckL (preD (d + 1) p) = ckL (p.args.flatMap (preD d))) := by
    show _ = _
    have h : ck1 p = 0 := by rw [hC]; unfold ckS; (repeat' split) <;> omega
    rw [ckL_pre, h]; rfl
  have HO := Lib.hid (List.all_eq_true.1 (show p.args.all (okD d) = true from hok))
  have HLN := Lib.hid (fun j hj => Nat.le_trans (Nat.le_of_lt (pre_len d p j hj)) hln)
  have IH := Lib.hid ih
  have HS := Lib.hid hsv
  have HN := Lib.hid (fun j hj => ckL_next d p.args j hj)
  obtain ⟨X, hX⟩ : ∃ X, ckL (preD (d + 1) p) = X := ⟨_, rfl⟩
  rw [hX] at HE
  rw [hX]
  clear hX hC hok hln ih hsv cF cT cN
  generalize p.frm = f at *
  generalize p.to = t at *
  go_enter Tryd.func34, Tryd.ntmps34
  go_wp2_with fail
  refine (HK.out _).mono ?_
  rintro e' w1 ⟨rfl, rfl⟩
  go_wp2_with fail
  refine (HU.out _).mono ?_
  rintro e' w1 ⟨rfl, rfl⟩
  go_wp2_with fail
  go_loopw [84] (fun v84 wr => ∃ j : Nat, j ≤ p.args.length ∧ v84 = .int .i64 j ∧ Hid (X = ckL ((p.args.drop j).flatMap (preD d))) ∧ Bl w wr) (fun v84 _ => p.args.length - (intOf v84).toNat)
  case atStart => exact ⟨0, Nat.zero_le _, rfl, by show _ = _; rw [HE.out, List.drop_zero], (Bl.refl w).alloc _⟩
  case round =>
    obtain ⟨j, hj, rfl, hx, hb⟩ := hrel
    by_cases hlt : j < p.args.length
    · obtain ⟨b, off, sv, rfl, ⟨c0, c1, c2, c3⟩, hsv⟩ := HS.out.at j hlt
      have c0 := hb.cell c0
      have c1 := hb.cell c1
      have c2 := hb.cell c2
      have c3 := hb.cell c3
      obtain ⟨o4, cap4, hsv4, hm4⟩ := hsv.form
      have st := Lib.hid (HN.out j hlt)
      have q1 := HO.out p.args[j] (List.getElem_mem hlt)
      have q2 := HLN.out j hlt
      obtain ⟨a, ha⟩ : ∃ a, a = p.args[j] := ⟨_, rfl⟩
      rw [← ha] at c0 c1 c2 hsv st hsv4 hm4 q1 q2
      subst hsv4
      have HC := Lib.hid (IH.out a _ _ (hsv.bl (hb.alloc (.cells #[.int .i64 a.kind, .int .i64 a.frm, .int .i64 a.to, .slice o4 a.args.length cap4] 24))) q1 q2)
      clear ha hsv q1 q2
      by_cases hz : ckL (preD d a) = 0
      · have hn : Hid (X = ckL ((p.args.drop (j + 1)).flatMap (preD d))) := by show _ = _; rw [hx.out, st.out]; exact if_neg (fun h => h hz)
        rw [hz] at HC
        clear hz
        go_wp2_with fail
        refine HC.out.mono ?_
        rintro e1 w2 ⟨rfl, b2⟩
        go_wp2_with fail
        go_roundw
        case rel => exact ⟨j + 1, by omega, by go_num, hn, (hb.alloc _).trans b2⟩
        case measure => simp [intOf]; omega
      · have hn : Hid (X = ckL (preD d a)) := by show _ = _; rw [hx.out, st.out]; exact if_pos hz
        have t1 : (ckL (preD d a) != 0) = true := by simpa using hz
        generalize ckL (preD d a) = Y at *
        clear hz
        go_wp2_with fail
        refine HC.out.mono ?_
        rintro e1 w2 ⟨rfl, b2⟩
        go_wp2_with fail
        go_returns
        exact ⟨ret_int hn.out.symm, (hb.alloc _).trans b2⟩
    · obtain rfl : j = p.args.length := by omega
      have hn : Hid (X = 0) := by show _ = _; rw [hx.out, List.drop_length]; rfl
      go_wp2_with fail
      go_returns
      exact ⟨ret_int hn.out.symm, hb⟩

set_option maxRecDepth 100000 in
set_option maxHeartbeats 6400000 in
theorem ckpR_5 (d : Nat) (p : Pk) (o : Option Addr) (cap : Nat) (w : World) (ih : ArgOk d) (hsv : PkV w (.slice o p.args.length cap) p.args) (hk : p.kind = 5) (hok : okD (d + 1) p = true) (hln : (preD (d + 1) p).length ≤ 200) :
    Calls Tryd.prog 34 #[.agg #[.int .i64 5, .int .i64 p.frm, .int .i64 p.to, .slice o p.args.length cap]] w fun e w' => e = .returned (.int .i64 (ckL (preD (d + 1) p))) ∧ Bl w w' := by
  have hC := ck1_of hk (by omega) (by omega) (show shp 5 = (0, 0, 2, 2) from rfl)
  have h200 : p.args.length ≤ 200 := by have h1 := args_len d p.args hok; have h2 : (preD (d + 1) p).length = (p.args.flatMap (preD d)).length + 1 := rfl; omega
  have HK := Lib.hid (fun w' => within_sure 5 1 9 true (by decide) w')
  have HU := Lib.hid (fun w' => used_5 w')
  by_cases cF : p.frm = 0
  rotate_left
  · have F3 : (p.frm != 0) = true := by simpa using cF
    have e : Hid (ckL (preD (d + 1) p) = 3) := by
      show _ = _
      have h : ck1 p = 3 := by rw [hC]; unfold ckS; (repeat' split) <;> omega
      rw [ckL_pre, h]; rfl
    clear hC hok hln ih hsv h200 cF
    generalize p.frm = f at *
    generalize p.to = t at *
    generalize p.args.length = n at *
    go_enter Tryd.func34, Tryd.ntmps34
    go_wp2_with fail
    refine (HK.out _).mono ?_
    rintro e' w1 ⟨rfl, rfl⟩
    go_wp2_with fail
    refine (HU.out _).mono ?_
    rintro e' w1 ⟨rfl, rfl⟩
    go_wp2_with fail
    go_returns
    exact ⟨ret_int e.out.symm, (Bl.refl w).alloc _⟩
  have F3 : (p.frm != 0) = false := by simpa using cF
  by_cases cT : p.to = 0
  rotate_left
  · have T3 : (p.to != 0) = true := by simpa using cT
    have e : Hid (ckL (preD (d + 1) p) = 3) := by
      show _ = _
      have h : ck1 p = 3 := by rw [hC]; unfold ckS; (repeat' split) <;> omega
      rw [ckL_pre, h]; rfl
    clear hC hok hln ih hsv h200 cF cT
    generalize p.frm = f at *
    generalize p.to = t at *
    generalize p.args.length = n at *
    go_enter Tryd.func34, Tryd.ntmps34
    go_wp2_with fail
    refine (HK.out _).mono ?_
    rintro e' w1 ⟨rfl, rfl⟩
    go_wp2_with fail
    refine (HU.out _).mono ?_
    rintro e' w1 ⟨rfl, rfl⟩
    go_wp2_with fail
    go_returns
    exact ⟨ret_int e.out.symm, (Bl.refl w).alloc _⟩
  have T3 : (p.to != 0) = false := by simpa using cT
  by_cases cN : p.args.length = 2
  rotate_left
  · have N3 : ((p.args.length : Int) != 2) = true := by rw [bne_iff_ne]; omega
    have e : Hid (ckL (preD (d + 1) p) = 3) := by
      show _ = _
      have h : ck1 p = 3 := by rw [hC]; unfold ckS; (repeat' split) <;> omega
      rw [ckL_pre, h]; rfl
    clear hC hok hln ih hsv h200 cF cT cN
    generalize p.frm = f at *
    generalize p.to = t at *
    generalize p.args.length = n at *
    go_enter Tryd.func34, Tryd.ntmps34
    go_wp2_with fail
    refine (HK.out _).mono ?_
    rintro e' w1 ⟨rfl, rfl⟩
    go_wp2_with fail
    refine (HU.out _).mono ?_
    rintro e' w1 ⟨rfl, rfl⟩
    go_wp2_with fail
    go_returns
    exact ⟨ret_int e.out.symm, (Bl.refl w).alloc _⟩
  have N3 : ((p.args.length : Int) != 2) = false := by rw [bne_eq_false_iff_eq]; omega
  have HE : Hid (ckL (preD (d + 1) p) = ckL (p.args.flatMap (preD d))) := by
    show _ = _
    have h : ck1 p = 0 := by rw [hC]; unfold ckS; (repeat' split) <;> omega
    rw [ckL_pre, h]; rfl
  have HO := Lib.hid (List.all_eq_true.1 (show p.args.all (okD d) = true from hok))
  have HLN := Lib.hid (fun j hj => Nat.le_trans (Nat.le_of_lt (pre_len d p j hj)) hln)
  have IH := Lib.hid ih
  have HS := Lib.hid hsv
  have HN := Lib.hid (fun j hj => ckL_next d p.args j hj)
  obtain ⟨X, hX⟩ : ∃ X, ckL (preD (d + 1) p) = X := ⟨_, rfl⟩
  rw [hX] at HE
  rw [hX]
  clear hX hC hok hln ih hsv cF cT cN
  generalize p.frm = f at *
  generalize p.to = t at *
  go_enter Tryd.func34, Tryd.ntmps34
  go_wp2_with fail
  refine (HK.out _).mono ?_
  rintro e' w1 ⟨rfl, rfl⟩
  go_wp2_with fail
  refine (HU.out _).mono ?_
  rintro e' w1 ⟨rfl, rfl⟩
  go_wp2_with fail
  go_loopw [84] (fun v84 wr => ∃ j : Nat, j ≤ p.args.length ∧ v84 = .int .i64 j ∧ Hid (X = ckL ((p.args.drop j).flatMap (preD d))) ∧ Bl w wr) (fun v84 _ => p.args.length - (intOf v84).toNat)
  case atStart => exact ⟨0, Nat.zero_le _, rfl, by show _ = _; rw [HE.out, List.drop_zero], (Bl.refl w).alloc _⟩
  case round =>
    obtain ⟨j, hj, rfl, hx, hb⟩ := hrel
    by_cases hlt : j < p.args.length
    · obtain ⟨b, off, sv, rfl, ⟨c0, c1, c2, c3⟩, hsv⟩ := HS.out.at j hlt
      have c0 := hb.cell c0
      have c1 := hb.cell c1
      have c2 := hb.cell c2
      have c3 := hb.cell c3
      obtain ⟨o4, cap4, hsv4, hm4⟩ := hsv.form
      have st := Lib.hid (HN.out j hlt)
      have q1 := HO.out p.args[j] (List.getElem_mem hlt)
      have q2 := HLN.out j hlt
      obtain ⟨a, ha⟩ : ∃ a, a = p.args[j] := ⟨_, rfl⟩
      rw [← ha] at c0 c1 c2 hsv st hsv4 hm4 q1 q2
      subst hsv4
      have HC := Lib.hid (IH.out a _ _ (hsv.bl (hb.alloc (.cells #[.int .i64 a.kind, .int .i64 a.frm, .int .i64 a.to, .slice o4 a.args.length cap4] 24))) q1 q2)
      clear ha hsv q1 q2
      by_cases hz : ckL (preD d a) = 0
      · have hn : Hid (X = ckL ((p.args.drop (j + 1)).flatMap (preD d))) := by show _ = _; rw [hx.out, st.out]; exact if_neg (fun h => h hz)
        rw [hz] at HC
        clear hz
        go_wp2_with fail
        refine HC.out.mono ?_
        rintro e1 w2 ⟨rfl, b2⟩
        go_wp2_with fail
        go_roundw
        case rel => exact ⟨j + 1, by omega, by go_num, hn, (hb.alloc _).trans b2⟩
        case measure => simp [intOf]; omega
      · have hn : Hid (X = ckL (preD d a)) := by show _ = _; rw [hx.out, st.out]; exact if_pos hz
        have t1 : (ckL (preD d a) != 0) = true := by simpa using hz
        generalize ckL (preD d a) = Y at *
        clear hz
        go_wp2_with fail
        refine HC.out.mono ?_
        rintro e1 w2 ⟨rfl, b2⟩
        go_wp2_with fail
        go_returns
        exact ⟨ret_int hn.out.symm, (hb.alloc _).trans b2⟩
    · obtain rfl : j = p.args.length := by omega
      have hn : Hid (X = 0) := by show _ = _; rw [hx.out, List.drop_length]; rfl
      go_wp2_with fail
      go_returns
      exact ⟨ret_int hn.out.symm, hb⟩

set_option maxRecDepth 100000 in
set_option maxHeartbeats 6400000 in
theorem ckpR_6 (d : Nat) (p : Pk) (o : Option Addr) (cap : Nat) (w : World) (ih : ArgOk d) (hsv : PkV w (.slice o p.args.length cap) p.args) (hk : p.kind = 6) (hok : okD (d + 1) p = true) (hln : (preD (d + 1) p).length ≤ 200) :
    Calls Tryd.prog 34 #[.agg #[.int .i64 6, .int .i64 p.frm, .int .i64 p.to, .slice o p.args.length cap]] w fun e w' => e = .returned (.int .i64 (ckL (preD (d + 1) p))) ∧ Bl w w' := by
  have hC := ck1_of hk (by omega) (by omega) (show shp 6 = (0, 0, 1, 1) from rfl)
  have h200 : p.args.length ≤ 200 := by have h1 := args_len d p.args hok; have h2 : (preD (d + 1) p).length = (p.args.flatMap (preD d)).length + 1 := rfl; omega
  have HK := Lib.hid (fun w' => within_sure 6 1 9 true (by decide) w')
  have HU := Lib.hid (fun w' => used_6 w')
  by_cases cF : p.frm = 0
  rotate_left
  · have F3 : (p.frm != 0) = true := by simpa using cF
    have e : Hid (ckL (preD (d + 1) p) = 3) := by
      show _ = _
      have h : ck1 p = 3 := by rw [hC]; unfold ckS; (repeat' split) <;> omega
      rw [ckL_pre, h]; rfl
    clear hC hok hln ih hsv h200 cF
    generalize p.frm = f at *
    generalize p.to = t at *
    generalize p.args.length = n at *
    go_enter Tryd.func34, Tryd.ntmps34
    go_wp2_with fail
    refine (HK.out _).mono ?_
    rintro e' w1 ⟨rfl, rfl⟩
    go_wp2_with fail
    refine (HU.out _).mono ?_
    rintro e' w1 ⟨rfl, rfl⟩
    go_wp2_with fail
    go_returns
    exact ⟨ret_int e.out.symm, (Bl.refl w).alloc _⟩
  have F3 : (p.frm != 0) = false := by simpa using cF
  by_cases cT : p.to = 0
  rotate_left
  · have T3 : (p.to != 0) = true := by simpa using cT
    have e : Hid (ckL (preD (d + 1) p) = 3) := by
      show _ = _
      have h : ck1 p = 3 := by rw [hC]; unfold ckS; (repeat' split) <;> omega
      rw [ckL_pre, h]; rfl
    clear hC hok hln ih hsv h200 cF cT
    generalize p.frm = f at *
    generalize p.to = t at *
    generalize p.args.length = n at *
    go_enter Tryd.func34, Tryd.ntmps34
    go_wp2_with fail
    refine (HK.out _).mono ?_
    rintro e' w1 ⟨rfl, rfl⟩
    go_wp2_with fail
    refine (HU.out _).mono ?_
    rintro e' w1 ⟨rfl, rfl⟩
    go_wp2_with fail
    go_returns
    exact ⟨ret_int e.out.symm, (Bl.refl w).alloc _⟩
  have T3 : (p.to != 0) = false := by simpa using cT
  by_cases cN : p.args.length = 1
  rotate_left
  · have N3 : ((p.args.length : Int) != 1) = true := by rw [bne_iff_ne]; omega
    have e : Hid (ckL (preD (d + 1) p) = 3) := by
      show _ = _
      have h : ck1 p = 3 := by rw [hC]; unfold ckS; (repeat' split) <;> omega
      rw [ckL_pre, h]; rfl
    clear hC hok hln ih hsv h200 cF cT cN
    generalize p.frm = f at *
    generalize p.to = t at *
    generalize p.args.length = n at *
    go_enter Tryd.func34, Tryd.ntmps34
    go_wp2_with fail
    refine (HK.out _).mono ?_
    rintro e' w1 ⟨rfl, rfl⟩
    go_wp2_with fail
    refine (HU.out _).mono ?_
    rintro e' w1 ⟨rfl, rfl⟩
    go_wp2_with fail
    go_returns
    exact ⟨ret_int e.out.symm, (Bl.refl w).alloc _⟩
  have N3 : ((p.args.length : Int) != 1) = false := by rw [bne_eq_false_iff_eq]; omega
  have HE : Hid (ckL (preD (d + 1) p) = ckL (p.args.flatMap (preD d))) := by
    show _ = _
    have h : ck1 p = 0 := by rw [hC]; unfold ckS; (repeat' split) <;> omega
    rw [ckL_pre, h]; rfl
  have HO := Lib.hid (List.all_eq_true.1 (show p.args.all (okD d) = true from hok))
  have HLN := Lib.hid (fun j hj => Nat.le_trans (Nat.le_of_lt (pre_len d p j hj)) hln)
  have IH := Lib.hid ih
  have HS := Lib.hid hsv
  have HN := Lib.hid (fun j hj => ckL_next d p.args j hj)
  obtain ⟨X, hX⟩ : ∃ X, ckL (preD (d + 1) p) = X := ⟨_, rfl⟩
  rw [hX] at HE
  rw [hX]
  clear hX hC hok hln ih hsv cF cT cN
  generalize p.frm = f at *
  generalize p.to = t at *
  go_enter Tryd.func34, Tryd.ntmps34
  go_wp2_with fail
  refine (HK.out _).mono ?_
  rintro e' w1 ⟨rfl, rfl⟩
  go_wp2_with fail
  refine (HU.out _).mono ?_
  rintro e' w1 ⟨rfl, rfl⟩
  go_wp2_with fail
  go_loopw [84] (fun v84 wr => ∃ j : Nat, j ≤ p.args.length ∧ v84 = .int .i64 j ∧ Hid (X = ckL ((p.args.drop j).flatMap (preD d))) ∧ Bl w wr) (fun v84 _ => p.args.length - (intOf v84).toNat)
  case atStart => exact ⟨0, Nat.zero_le _, rfl, by show _ = _; rw [HE.out, List.drop_zero], (Bl.refl w).alloc _⟩
  case round =>
    obtain ⟨j, hj, rfl, hx, hb⟩ := hrel
    by_cases hlt : j < p.args.length
    · obtain ⟨b, off, sv, rfl, ⟨c0, c1, c2, c3⟩, hsv⟩ := HS.out.at j hlt
      have c0 := hb.cell c0
      have c1 := hb.cell c1
      have c2 := hb.cell c2
      have c3 := hb.cell c3
      obtain ⟨o4, cap4, hsv4, hm4⟩ := hsv.form
      have st := Lib.hid (HN.out j hlt)
      have q1 := HO.out p.args[j] (List.getElem_mem hlt)
      have q2 := HLN.out j hlt
      obtain ⟨a, ha⟩ : ∃ a, a = p.args[j] := ⟨_, rfl⟩
      rw [← ha] at c0 c1 c2 hsv st hsv4 hm4 q1 q2
      subst hsv4
      have HC := Lib.hid (IH.out a _ _ (hsv.bl (hb.alloc (.cells #[.int .i64 a.kind, .int .i64 a.frm, .int .i64 a.to, .slice o4 a.args.length cap4] 24))) q1 q2)
      clear ha hsv q1 q2
      by_cases hz : ckL (preD d a) = 0
      · have hn : Hid (X = ckL ((p.args.drop (j + 1)).flatMap (preD d))) := by show _ = _; rw [hx.out, st.out]; exact if_neg (fun h => h hz)
        rw [hz] at HC
        clear hz
        go_wp2_with fail
        refine HC.out.mono ?_
        rintro e1 w2 ⟨rfl, b2⟩
        go_wp2_with fail
        go_roundw
        case rel => exact ⟨j + 1, by omega, by go_num, hn, (hb.alloc _).trans b2⟩
        case measure => simp [intOf]; omega
      · have hn : Hid (X = ckL (preD d a)) := by show _ = _; rw [hx.out, st.out]; exact if_pos hz
        have t1 : (ckL (preD d a) != 0) = true := by simpa using hz
        generalize ckL (preD d a) = Y at *
        clear hz
        go_wp2_with fail
        refine HC.out.mono ?_
        rintro e1 w2 ⟨rfl, b2⟩
        go_wp2_with fail
        go_returns
        exact ⟨ret_int hn.out.symm, (hb.alloc _).trans b2⟩
    · obtain rfl : j = p.args.length := by omega
      have hn : Hid (X = 0) := by show _ = _; rw [hx.out, List.drop_length]; rfl
      go_wp2_with fail
      go_returns
      exact ⟨ret_int hn.out.symm, hb⟩

set_option maxRecDepth 100000 in
set_option maxHeartbeats 6400000 in
theorem ckpR_7 (d : Nat) (p : Pk) (o : Option Addr) (cap : Nat) (w : World) (ih : ArgOk d) (hsv : PkV w (.slice o p.args.length cap) p.args) (hk : p.kind = 7) (hok : okD (d + 1) p = true) (hln : (preD (d + 1) p).length ≤ 200) :
    Calls Tryd.prog 34 #[.agg #[.int .i64 7, .int .i64 p.frm, .int .i64 p.to, .slice o p.args.length cap]] w fun e w' => e = .returned (.int .i64 (ckL (preD (d + 1) p))) ∧ Bl w w' := by
  have hC := ck1_of hk (by omega) (by omega) (show shp 7 = (0, 0, 1, 1) from rfl)
  have h200 : p.args.length ≤ 200 := by have h1 := args_len d p.args hok; have h2 : (preD (d + 1) p).length = (p.args.flatMap (preD d)).length + 1 := rfl; omega
  have HK := Lib.hid (fun w' => within_sure 7 1 9 true (by decide) w')
  have HU := Lib.hid (fun w' => used_7 w')
  by_cases cF : p.frm = 0
  rotate_left
  · have F3 : (p.frm != 0) = true := by simpa using cF
    have e : Hid (ckL (preD (d + 1) p) = 3) := by
      show _ = _
      have h : ck1 p = 3 := by rw [hC]; unfold ckS; (repeat' split) <;> omega
      rw [ckL_pre, h]; rfl
    clear hC hok hln ih hsv h200 cF
    generalize p.frm = f at *
    generalize p.to = t at *
    generalize p.args.length = n at *
    go_enter Tryd.func34, Tryd.ntmps34
    go_wp2_with fail
    refine (HK.out _).mono ?_
    rintro e' w1 ⟨rfl, rfl⟩
    go_wp2_with fail
    refine (HU.out _).mono ?_
    rintro e' w1 ⟨rfl, rfl⟩
    go_wp2_with fail
    go_returns
    exact ⟨ret_int e.out.symm, (Bl.refl w).alloc _⟩
  have F3 : (p.frm != 0) = false := by simpa using cF
  by_cases cT : p.to = 0
  rotate_left
  · have T3 : (p.to != 0) = true := by simpa using cT
    have e : Hid (ckL (preD (d + 1) p) = 3) := by
      show _ = _
      have h : ck1 p = 3 := by rw [hC]; unfold ckS; (repeat' split) <;> omega
      rw [ckL_pre, h]; rfl
    clear hC hok hln ih hsv h200 cF cT
    generalize p.frm = f at *
    generalize p.to = t at *
    generalize p.args.length = n at *
    go_enter Tryd.func34, Tryd.ntmps34
    go_wp2_with fail
    refine (HK.out _).mono ?_
    rintro e' w1 ⟨rfl, rfl⟩
    go_wp2_with fail
    refine (HU.out _).mono ?_
    rintro e' w1 ⟨rfl, rfl⟩
    go_wp2_with fail
    go_returns
    exact ⟨ret_int e.out.symm, (Bl.refl w).alloc _⟩
  have T3 : (p.to != 0) = false := by simpa using cT
  by_cases cN : p.args.length = 1
  rotate_left
  · have N3 : ((p.args.length : Int) != 1) = true := by rw [bne_iff_ne]; omega
    have e : Hid (ckL (preD (d + 1) p) = 3) := by
      show _ = _
      have h : ck1 p = 3 := by rw [hC]; unfold ckS; (repeat' split) <;> omega
      rw [ckL_pre, h]; rfl
    clear hC hok hln ih hsv h200 cF cT cN
    generalize p.frm = f at *
    generalize p.to = t at *
    generalize p.args.length = n at *
    go_enter Tryd.func34, Tryd.ntmps34
    go_wp2_with fail
    refine (HK.out _).mono ?_
    rintro e' w1 ⟨rfl, rfl⟩
    go_wp2_with fail
    refine (HU.out _).mono ?_
    rintro e' w1 ⟨rfl, rfl⟩
    go_wp2_with fail
    go_returns
    exact ⟨ret_int e.out.symm, (Bl.refl w).alloc _⟩
  have N3 : ((p.args.length : Int) != 1) = false := by rw [bne_eq_false_iff_eq]; omega
  have HE : Hid (ckL (preD (d + 1) p) = ckL (p.args.flatMap (preD d))) := by
    show _ = _
    have h : ck1 p = 0 := by rw [hC]; unfold ckS; (repeat' split) <;> omega
    rw [ckL_pre, h]; rfl
  have HO := Lib.hid (List.all_eq_true.1 (show p.args.all (okD d) = true from hok))
  have HLN := Lib.hid (fun j hj => Nat.le_trans (Nat.le_of_lt (pre_len d p j hj)) hln)
  have IH := Lib.hid ih
  have HS := Lib.hid hsv
  have HN := Lib.hid (fun j hj => ckL_next d p.args j hj)
  obtain ⟨X, hX⟩ : ∃ X, ckL (preD (d + 1) p) = X := ⟨_, rfl⟩
  rw [hX] at HE
  rw [hX]
  clear hX hC hok hln ih hsv cF cT cN
  generalize p.frm = f at *
  generalize p.to = t at *
  go_enter Tryd.func34, Tryd.ntmps34
  go_wp2_with fail
  refine (HK.out _).mono ?_
  rintro e' w1 ⟨rfl, rfl⟩
  go_wp2_with fail
  refine (HU.out _).mono ?_
  rintro e' w1 ⟨rfl, rfl⟩
  go_wp2_with fail
  go_loopw [84] (fun v84 wr => ∃ j : Nat, j ≤ p.args.length ∧ v84 = .int .i64 j ∧ Hid (X = ckL ((p.args.drop j).flatMap (preD d))) ∧ Bl w wr) (fun v84 _ => p.args.length - (intOf v84).toNat)
  case atStart => exact ⟨0, Nat.zero_le _, rfl, by show _ = _; rw [HE.out, List.drop_zero], (Bl.refl w).alloc _⟩
  case round =>
    obtain ⟨j, hj, rfl, hx, hb⟩ := hrel
    by_cases hlt : j < p.args.length
    · obtain ⟨b, off, sv, rfl, ⟨c0, c1, c2, c3⟩, hsv⟩ := HS.out.at j hlt
      have c0 := hb.cell c0
      have c1 := hb.cell c1
      have c2 := hb.cell c2
      have c3 := hb.cell c3
      obtain ⟨o4, cap4, hsv4, hm4⟩ := hsv.form
      have st := Lib.hid (HN.out j hlt)
      have q1 := HO.out p.args[j] (List.getElem_mem hlt)
      have q2 := HLN.out j hlt
      obtain ⟨a, ha⟩ : ∃ a, a = p.args[j] := ⟨_, rfl⟩
      rw [← ha] at c0 c1 c2 hsv st hsv4 hm4 q1 q2
      subst hsv4
      have HC := Lib.hid (IH.out a _ _ (hsv.bl (hb.alloc (.cells #[.int .i64 a.kind, .int .i64 a.frm, .int .i64 a.to, .slice o4 a.args.length cap4] 24))) q1 q2)
      clear ha hsv q1 q2
      by_cases hz : ckL (preD d a) = 0
      · have hn : Hid (X = ckL ((p.args.drop (j + 1)).flatMap (preD d))) := by show _ = _; rw [hx.out, st.out]; exact if_neg (fun h => h hz)
        rw [hz] at HC
        clear hz
        go_wp2_with fail
        refine HC.out.mono ?_
        rintro e1 w2 ⟨rfl, b2⟩
        go_wp2_with fail
        go_roundw
        case rel => exact ⟨j + 1, by omega, by go_num, hn, (hb.alloc _).trans b2⟩
        case measure => simp [intOf]; omega
      · have hn : Hid (X = ckL (preD d a)) := by show _ = _; rw [hx.out, st.out]; exact if_pos hz
        have t1 : (ckL (preD d a) != 0) = true := by simpa using hz
        generalize ckL (preD d a) = Y at *
        clear hz
        go_wp2_with fail
        refine HC.out.mono ?_
        rintro e1 w2 ⟨rfl, b2⟩
        go_wp2_with fail
        go_returns
        exact ⟨ret_int hn.out.symm, (hb.alloc _).trans b2⟩
    · obtain rfl : j = p.args.length := by omega
      have hn : Hid (X = 0) := by show _ = _; rw [hx.out, List.drop_length]; rfl
      go_wp2_with fail
      go_returns
      exact ⟨ret_int hn.out.symm, hb⟩

set_option maxRecDepth 100000 in
set_option maxHeartbeats 6400000 in
theorem ckpR_8 (d : Nat) (p : Pk) (o : Option Addr) (cap : Nat) (w : World) (ih : ArgOk d) (hsv : PkV w (.slice o p.args.length cap) p.args) (hk : p.kind = 8) (hok : okD (d + 1) p = true) (hln : (preD (d + 1) p).length ≤ 200) :
    Calls Tryd.prog 34 #[.agg #[.int .i64 8, .int .i64 p.frm, .int .i64 p.to, .slice o p.args.length cap]] w fun e w' => e = .returned (.int .i64 (ckL (preD (d + 1) p))) ∧ Bl w w' := by
  have hC := ck1_of hk (by omega) (by omega) (show shp 8 = (0, 0, 1, 1) from rfl)
  have h200 : p.args.length ≤ 200 := by have h1 := args_len d p.args hok; have h2 : (preD (d + 1) p).length = (p.args.flatMap (preD d)).length + 1 := rfl; omega
  have HK := Lib.hid (fun w' => within_sure 8 1 9 true (by decide) w')
  have HU := Lib.hid (fun w' => used_8 w')
  by_cases cF : p.frm = 0
  rotate_left
  · have F3 : (p.frm != 0) = true := by simpa using cF
    have e : Hid (ckL (preD (d + 1) p) = 3) := by
      show _ = _
      have h : ck1 p = 3 := by rw [hC]; unfold ckS; (repeat' split) <;> omega
      rw [ckL_pre, h]; rfl
    clear hC hok hln ih hsv h200 cF
    generalize p.frm = f at *
    generalize p.to = t at *
    generalize p.args.length = n at *
    go_enter Tryd.func34, Tryd.ntmps34
    go_wp2_with fail
    refine (HK.out _).mono ?_
    rintro e' w1 ⟨rfl, rfl⟩
    go_wp2_with fail
    refine (HU.out _).mono ?_
    rintro e' w1 ⟨rfl, rfl⟩
    go_wp2_with fail
    go_returns
    exact ⟨ret_int e.out.symm, (Bl.refl w).alloc _⟩
  have F3 : (p.frm != 0) = false := by simpa using cF
  by_cases cT : p.to = 0
  rotate_left
  · have T3 : (p.to != 0) = true := by simpa using cT
    have e : Hid (ckL (preD (d + 1) p) = 3) := by
      show _ = _
      have h : ck1 p = 3 := by rw [hC]; unfold ckS; (repeat' split) <;> omega
      rw [ckL_pre, h]; rfl
    clear hC hok hln ih hsv h200 cF cT
    generalize p.frm = f at *
    generalize p.to = t at *
    generalize p.args.length = n at *
    go_enter Tryd.func34, Tryd.ntmps34
    go_wp2_with fail
    refine (HK.out _).mono ?_
    rintro e' w1 ⟨rfl, rfl⟩
    go_wp2_with fail
    refine (HU.out _).mono ?_
    rintro e' w1 ⟨rfl, rfl⟩
    go_wp2_with fail
    go_returns
    exact ⟨ret_int e.out.symm, (Bl.refl w).alloc _⟩
  have T3 : (p.to != 0) = false := by simpa using cT
  by_cases cN : p.args.length = 1
  rotate_left
  · have N3 : ((p.args.length : Int) != 1) = true := by rw [bne_iff_ne]; omega
    have e : Hid (ckL (preD (d + 1) p) = 3) := by
      show _ = _
      have h : ck1 p = 3 := by rw [hC]; unfold ckS; (repeat' split) <;> omega
      rw [ckL_pre, h]; rfl
    clear hC hok hln ih hsv h200 cF cT cN
    generalize p.frm = f at *
    generalize p.to = t at *
    generalize p.args.length = n at *
    go_enter Tryd.func34, Tryd.ntmps34
    go_wp2_with fail
    refine (HK.out _).mono ?_
    rintro e' w1 ⟨rfl, rfl⟩
    go_wp2_with fail
    refine (HU.out _).mono ?_
    rintro e' w1 ⟨rfl, rfl⟩
    go_wp2_with fail
    go_returns
    exact ⟨ret_int e.out.symm, (Bl.refl w).alloc _⟩
  have N3 : ((p.args.length : Int) != 1) = false := by rw [bne_eq_false_iff_eq]; omega
  have HE : Hid (ckL (preD (d + 1) p) = ckL (p.args.flatMap (preD d))) := by
    show _ = _
    have h : ck1 p = 0 := by rw [hC]; unfold ckS; (repeat' split) <;> omega
    rw [ckL_pre, h]; rfl
  have HO := Lib.hid (List.all_eq_true.1 (show p.args.all (okD d) = true from hok))
  have HLN := Lib.hid (fun j hj => Nat.le_trans (Nat.le_of_lt (pre_len d p j hj)) hln)
  have IH := Lib.hid ih
  have HS := Lib.hid hsv
  have HN := Lib.hid (fun j hj => ckL_next d p.args j hj)
  obtain ⟨X, hX⟩ : ∃ X, ckL (preD (d + 1) p) = X := ⟨_, rfl⟩
  rw [hX] at HE
  rw [hX]
  clear hX hC hok hln ih hsv cF cT cN
  generalize p.frm = f at *
  generalize p.to = t at *
  go_enter Tryd.func34, Tryd.ntmps34
  go_wp2_with fail
  refine (HK.out _).mono ?_
  rintro e' w1 ⟨rfl, rfl⟩
  go_wp2_with fail
  refine (HU.out _).mono ?_
  rintro e' w1 ⟨rfl, rfl⟩
  go_wp2_with fail
  go_loopw [84] (fun v84 wr => ∃ j : Nat, j ≤ p.args.length ∧ v84 = .int .i64 j ∧ Hid (X = ckL ((p.args.drop j).flatMap (preD d))) ∧ Bl w wr) (fun v84 _ => p.args.length - (intOf v84).toNat)
  case atStart => exact ⟨0, Nat.zero_le _, rfl, by show _ = _; rw [HE.out, List.drop_zero], (Bl.refl w).alloc _⟩
  case round =>
    obtain ⟨j, hj, rfl, hx, hb⟩ := hrel
    by_cases hlt : j < p.args.length
    · obtain ⟨b, off, sv, rfl, ⟨c0, c1, c2, c3⟩, hsv⟩ := HS.out.at j hlt
      have c0 := hb.cell c0
      have c1 := hb.cell c1
      have c2 := hb.cell c2
      have c3 := hb.cell c3
      obtain ⟨o4, cap4, hsv4, hm4⟩ := hsv.form
      have st := Lib.hid (HN.out j hlt)
      have q1 := HO.out p.args[j] (List.getElem_mem hlt)
      have q2 := HLN.out j hlt
      obtain ⟨a, ha⟩ : ∃ a, a = p.args[j] := ⟨_, rfl⟩
      rw [← ha] at c0 c1 c2 hsv st hsv4 hm4 q1 q2
      subst hsv4
      have HC := Lib.hid (IH.out a _ _ (hsv.bl (hb.alloc (.cells #[.int .i64 a.kind, .int .i64 a.frm, .int .i64 a.to, .slice o4 a.args.length cap4] 24))) q1 q2)
      clear ha hsv q1 q2
      by_cases hz : ckL (preD d a) = 0
      · have hn : Hid (X = ckL ((p.args.drop (j + 1)).flatMap (preD d))) := by show _ = _; rw [hx.out, st.out]; exact if_neg (fun h => h hz)
        rw [hz] at HC
        clear hz
        go_wp2_with fail
        refine HC.out.mono ?_
        rintro e1 w2 ⟨rfl, b2⟩
        go_wp2_with fail
        go_roundw
        case rel => exact ⟨j + 1, by omega, by go_num, hn, (hb.alloc _).trans b2⟩
        case measure => simp [intOf]; omega
      · have hn : Hid (X = ckL (preD d a)) := by show _ = _; rw [hx.out, st.out]; exact if_pos hz
        have t1 : (ckL (preD d a) != 0) = true := by simpa using hz
        generalize ckL (preD d a) = Y at *
        clear hz
        go_wp2_with fail
        refine HC.out.mono ?_
        rintro e1 w2 ⟨rfl, b2⟩
        go_wp2_with fail
        go_returns
        exact ⟨ret_int hn.out.symm, (hb.alloc _).trans b2⟩
    · obtain rfl : j = p.args.length := by omega
      have hn : Hid (X = 0) := by show _ = _; rw [hx.out, List.drop_length]; rfl
      go_wp2_with fail
      go_returns
      exact ⟨ret_int hn.out.symm, hb⟩

set_option maxRecDepth 100000 in
set_option maxHeartbeats 6400000 in
theorem ckpR_9 (d : Nat) (p : Pk) (o : Option Addr) (cap : Nat) (w : World) (ih : ArgOk d) (hsv : PkV w (.slice o p.args.length cap) p.args) (hk : p.kind = 9) (hok : okD (d + 1) p = true) (hln : (preD (d + 1) p).length ≤ 200) :
    Calls Tryd.prog 34 #[.agg #[.int .i64 9, .int .i64 p.frm, .int .i64 p.to, .slice o p.args.length cap]] w fun e w' => e = .returned (.int .i64 (ckL (preD (d + 1) p))) ∧ Bl w w' := by
  have hC := ck1_of hk (by omega) (by omega) (show shp 9 = (9999, 9999, 1, 1) from rfl)
  have h200 : p.args.length ≤ 200 := by have h1 := args_len d p.args hok; have h2 : (preD (d + 1) p).length = (p.args.flatMap (preD d)).length + 1 := rfl; omega
  have HK := Lib.hid (fun w' => within_sure 9 1 9 true (by decide) w')
  have HU := Lib.hid (fun w' => used_9 w')
  by_cases cN : p.args.length = 1
  rotate_left
  · have N3 : ((p.args.length : Int) != 1) = true := by rw [bne_iff_ne]; omega
    have e : Hid (ckL (preD (d + 1) p) = 3) := by
      show _ = _
      have h : ck1 p = 3 := by rw [hC]; unfold ckS; (repeat' split) <;> omega
      rw [ckL_pre, h]; rfl
    clear hC hok hln ih hsv h200 cN
    generalize p.frm = f at *
    generalize p.to = t at *
    generalize p.args.length = n at *
    go_enter Tryd.func34, Tryd.ntmps34
    go_wp2_with fail
    refine (HK.out _).mono ?_
    rintro e' w1 ⟨rfl, rfl⟩
    go_wp2_with fail
    refine (HU.out _).mono ?_
    rintro e' w1 ⟨rfl, rfl⟩
    go_wp2_with fail
    go_returns
    exact ⟨ret_int e.out.symm, (Bl.refl w).alloc _⟩
  have N3 : ((p.args.length : Int) != 1) = false := by rw [bne_eq_false_iff_eq]; omega
  by_cases rF : 1 ≤ p.frm ∧ p.frm ≤ 9999
  rotate_left
  · have HF := Lib.hid (fun w' => within_sure p.frm 1 9999 false (not_within rF) w')
    have e : Hid (ckL (preD (d + 1) p) = 1) := by
      show _ = _
      have h : ck1 p = 1 := by rw [hC]; unfold ckS; (repeat' split) <;> omega
      rw [ckL_pre, h]; rfl
    clear hC hok hln ih hsv h200 cN rF
    generalize p.frm = f at *
    generalize p.to = t at *
    generalize p.args.length = n at *
    go_enter Tryd.func34, Tryd.ntmps34
    go_wp2_with fail
    refine (HK.out _).mono ?_
    rintro e' w1 ⟨rfl, rfl⟩
    go_wp2_with fail
    refine (HU.out _).mono ?_
    rintro e' w1 ⟨rfl, rfl⟩
    go_wp2_with fail
    refine (HF.out _).mono ?_
    rintro e' w1 ⟨rfl, rfl⟩
    go_wp2_with fail
    go_returns
    exact ⟨ret_int e.out.symm, (Bl.refl w).alloc _⟩
  have HF := Lib.hid (fun w' => within_sure p.frm 1 9999 true (is_within rF) w')
  by_cases rT : 1 ≤ p.to ∧ p.to ≤ 9999
  rotate_left
  · have HT := Lib.hid (fun w' => within_sure p.to 1 9999 false (not_within rT) w')
    have e : Hid (ckL (preD (d + 1) p) = 1) := by
      show _ = _
      have h : ck1 p = 1 := by rw [hC]; unfold ckS; (repeat' split) <;> omega
      rw [ckL_pre, h]; rfl
    clear hC hok hln ih hsv h200 cN rF rT
    generalize p.frm = f at *
    generalize p.to = t at *
    generalize p.args.length = n at *
    go_enter Tryd.func34, Tryd.ntmps34
    go_wp2_with fail
    refine (HK.out _).mono ?_
    rintro e' w1 ⟨rfl, rfl⟩
    go_wp2_with fail
    refine (HU.out _).mono ?_
    rintro e' w1 ⟨rfl, rfl⟩
    go_wp2_with fail
    refine (HF.out _).mono ?_
    rintro e' w1 ⟨rfl, rfl⟩
    go_wp2_with fail
    refine (HT.out _).mono ?_
    rintro e' w1 ⟨rfl, rfl⟩
    go_wp2_with fail
    go_returns
    exact ⟨ret_int e.out.symm, (Bl.refl w).alloc _⟩
  have HT := Lib.hid (fun w' => within_sure p.to 1 9999 true (is_within rT) w')
  have HE : Hid (ckL (preD (d + 1) p) = ckL (p.args.flatMap (preD d))) := by
    show _ = _
    have h : ck1 p = 0 := by rw [hC]; unfold ckS; (repeat' split) <;> omega
    rw [ckL_pre, h]; rfl
  have HO := Lib.hid (List.all_eq_true.1 (show p.args.all (okD d) = true from hok))
  have HLN := Lib.hid (fun j hj => Nat.le_trans (Nat.le_of_lt (pre_len d p j hj)) hln)
  have IH := Lib.hid ih
  have HS := Lib.hid hsv
  have HN := Lib.hid (fun j hj => ckL_next d p.args j hj)
  obtain ⟨X, hX⟩ : ∃ X, ckL (preD (d + 1) p) = X := ⟨_, rfl⟩
  rw [hX] at HE
  rw [hX]
  clear hX hC hok hln ih hsv cN rF rT
  generalize p.frm = f at *
  generalize p.to = t at *
  go_enter Tryd.func34, Tryd.ntmps34
  go_wp2_with fail
  refine (HK.out _).mono ?_
  rintro e' w1 ⟨rfl, rfl⟩
  go_wp2_with fail
  refine (HU.out _).mono ?_
  rintro e' w1 ⟨rfl, rfl⟩
  go_wp2_with fail
  refine (HF.out _).mono ?_
  rintro e' w1 ⟨rfl, rfl⟩
  go_wp2_with fail
  refine (HT.out _).mono ?_
  rintro e' w1 ⟨rfl, rfl⟩
  go_wp2_with fail
  go_loopw [84] (fun v84 wr => ∃ j : Nat, j ≤ p.args.length ∧ v84 = .int .i64 j ∧ Hid (X = ckL ((p.args.drop j).flatMap (preD d))) ∧ Bl w wr) (fun v84 _ => p.args.length - (intOf v84).toNat)
  case atStart => exact ⟨0, Nat.zero_le _, rfl, by show _ = _; rw [HE.out, List.drop_zero], (Bl.refl w).alloc _⟩
  case round =>
    obtain ⟨j, hj, rfl, hx, hb⟩ := hrel
    by_cases hlt : j < p.args.length
    · obtain ⟨b, off, sv, rfl, ⟨c0, c1, c2, c3⟩, hsv⟩ := HS.out.at j hlt
      have c0 := hb.cell c0
      have c1 := hb.cell c1
      have c2 := hb.cell c2
      have c3 := hb.cell c3
      obtain ⟨o4, cap4, hsv4, hm4⟩ := hsv.form
      have st := Lib.hid (HN.out j hlt)
      have q1 := HO.out p.args[j] (List.getElem_mem hlt)
      have q2 := HLN.out j hlt
      obtain ⟨a, ha⟩ : ∃ a, a = p.args[j] := ⟨_, rfl⟩
      rw [← ha] at c0 c1 c2 hsv st hsv4 hm4 q1 q2
      subst hsv4
      have HC := Lib.hid (IH.out a _ _ (hsv.bl (hb.alloc (.cells #[.int .i64 a.kind, .int .i64 a.frm, .int .i64 a.to, .slice o4 a.args.length cap4] 24))) q1 q2)
      clear ha hsv q1 q2
      by_cases hz : ckL (preD d a) = 0
      · have hn : Hid (X = ckL ((p.args.drop (j + 1)).flatMap (preD d))) := by show _ = _; rw [hx.out, st.out]; exact if_neg (fun h => h hz)
        rw [hz] at HC
        clear hz
        go_wp2_with fail
        refine HC.out.mono ?_
        rintro e1 w2 ⟨rfl, b2⟩
        go_wp2_with fail
        go_roundw
        case rel => exact ⟨j + 1, by omega, by go_num, hn, (hb.alloc _).trans b2⟩
        case measure => simp [intOf]; omega
      · have hn : Hid (X = ckL (preD d a)) := by show _ = _; rw [hx.out, st.out]; exact if_pos hz
        have t1 : (ckL (preD d a) != 0) = true := by simpa using hz
        generalize ckL (preD d a) = Y at *
        clear hz
        go_wp2_with fail
        refine HC.out.mono ?_
        rintro e1 w2 ⟨rfl, b2⟩
        go_wp2_with fail
        go_returns
        exact ⟨ret_int hn.out.symm, (hb.alloc _).trans b2⟩
    · obtain rfl : j = p.args.length := by omega
      have hn : Hid (X = 0) := by show _ = _; rw [hx.out, List.drop_length]; rfl
      go_wp2_with fail
      go_returns
      exact ⟨ret_int hn.out.symm, hb⟩


theorem argOk : ∀ (d : Nat), ArgOk d := by
  intro d
  induction d with
  | zero => intro p sv w _ h; cases h
  | succ d ih =>
    intro p sv w hsv hok hln
    obtain ⟨o, cap, rfl, _⟩ := hsv.form
    by_cases h1 : 1 ≤ p.kind ∧ p.kind ≤ 9
    · have key : p.kind = 1 ∨ p.kind = 2 ∨ p.kind = 3 ∨ p.kind = 4 ∨ p.kind = 5 ∨ p.kind = 6 ∨ p.kind = 7 ∨ p.kind = 8 ∨ p.kind = 9 := by omega
      rcases key with h | h | h | h | h | h | h | h | h
      · rw [h]; exact ckpR_1 d p o cap w ih hsv h hok hln
      · rw [h]; exact ckpR_2 d p o cap w ih hsv h hok hln
      · rw [h]; exact ckpR_3 d p o cap w ih hsv h hok hln
      · rw [h]; exact ckpR_4 d p o cap w ih hsv h hok hln
      · rw [h]; exact ckpR_5 d p o cap w ih hsv h hok hln
      · rw [h]; exact ckpR_6 d p o cap w ih hsv h hok hln
      · rw [h]; exact ckpR_7 d p o cap w ih hsv h hok hln
      · rw [h]; exact ckpR_8 d p o cap w ih hsv h hok hln
      · rw [h]; exact ckpR_9 d p o cap w ih hsv h hok hln
    · have e : Hid (ckL (preD (d + 1) p) = 4) := by
        show _ = _
        have h : ck1 p = 4 := by unfold ck1; rw [if_pos (by omega)]
        rw [ckL_pre, h]; rfl
      have HK := Lib.hid (fun w' => within_sure p.kind 1 9 false (not_within h1) w')
      clear hsv hok hln ih h1
      generalize p.kind = k at *
      generalize p.frm = f at *
      generalize p.to = t at *
      go_enter Tryd.func34, Tryd.ntmps34
      go_wp2_with fail
      refine (HK.out _).mono ?_
      rintro e' w1 ⟨rfl, rfl⟩
      go_wp2_with fail
      go_returns
      exact ⟨ret_int e.out.symm, (Bl.refl w).alloc _⟩
end Go.Proofs.YtgpblgalklegkaaDoor
