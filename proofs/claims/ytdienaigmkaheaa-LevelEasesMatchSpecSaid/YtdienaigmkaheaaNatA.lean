/- The reference's numbers of digits: small, order, minus, number. -/
import Derived.Test.YtdienaigmkaheaaNatW
namespace Go.Proofs.Ytdienaigmkaheaa
open Go.RowKit

def SmallRel (w : World) (N : Int) (v0 v3 : Value) (wr : World) : Prop := ∃ (k : Nat) (m : Int) (ds : List Int), v0 = .int .i64 m ∧ 0 ≤ m ∧ m ≤ 9223372036854775807 ∧ ds.length = k ∧
  wr.ownsRow w.heap.size 3 1 v3 k (ds.map (Value.int .i64)) ∧ Dig ds ∧ val ds + pw k * m = N ∧ Bl w wr ∧ (m = 0 → Trm ds)
theorem pw3 {k : Nat} (h : pw k ≤ 9223372036854775807) : k ≤ 2 := by
  by_cases hk : k ≤ 2
  · exact hk
  · have := pw_mono (a := 3) (b := k) (by omega)
    have e : pw 3 = 1000000000000000000000000000 := by decide
    omega

set_option maxRecDepth 100000 in
set_option maxHeartbeats 1600000 in
theorem small_any (N : Int) (w : World) (h0 : 0 ≤ N) (h1 : N ≤ 9223372036854775807) :
    Calls Try.prog 39 #[.int .i64 N] w (PNat N w) := by
  go_enter Try.func39, Try.ntmps39
  go_wp2
  go_loopw [0, 3] (fun v0 v3 wr => SmallRel w N v0 v3 wr) (fun v0 _ _ => (intOf v0).toNat)
  case atStart => exact ⟨0, N, [], rfl, h0, h1, rfl, World.ownsRow_nil _ _ _ _, dig_nil, by simp [val, pw_zero], Bl.refl _, fun _ => Or.inl rfl⟩
  case round =>
    obtain ⟨k, m, ds, rfl, m0, m1, hl, hown, hd, hv, hbl, ht⟩ := hrel
    have HX := Lib.hid (And.intro hl (And.intro hown (And.intro hd (And.intro hv (And.intro hbl ht)))))
    have hb := val_bd ds hd
    clear hl hown hd hv hbl ht
    by_cases hm : 0 < m
    · have hk : k ≤ 2 := pw3 (by
        have := Int.mul_le_mul_of_nonneg_left (show 1 ≤ m by omega) (Int.le_of_lt (pw_pos k))
        have := HX.out.2.2.2.1
        omega)
      clear hb
      go_wp2_with (at_builtin; refine app_int Try.underlying47 info_i rfl _ _ rfl w wr _ k ds (m % 1000000000) HX.out.2.1 rfl rfl (by omega) HX.out.2.2.2.2.1 ?_; intro v' w1 hown' hbl')
      refine ⟨⟨k + 1, m / 1000000000, ds ++ [m % 1000000000], rfl, by omega, by omega, by simp [HX.out.1], hown', dig_snoc HX.out.2.2.1 (by omega) (by omega), ?_, hbl', fun hz => Or.inr ?_⟩, by simp [intOf]; omega⟩
      · rw [val_snoc, HX.out.1, pw_succ, ← HX.out.2.2.2.1]
        have e3 : m = 1000000000 * (m / 1000000000) + m % 1000000000 := by omega
        generalize m / 1000000000 = q at *
        generalize m % 1000000000 = r at *
        rw [e3]; grind
      · simp
        omega
    · obtain ⟨hl, hown, hd, hv, hbl, ht⟩ := HX.out
      have hz : m = 0 := by omega
      have HN : Hid (NatAt wr u3 N) := ⟨ds, slc_own hown, hd, ht hz, by rw [hz, Int.mul_zero, Int.add_zero] at hv; exact hv⟩
      clear hl hown hd hv ht hz hb HX
      go_wp2_with fail
      go_returns
      exact ⟨_, rfl, HN.out, hbl⟩

def PCmp (a b : Int) (w : World) (e : Ending) (w' : World) : Prop := e = .returned (.int .i64 (cmpV a b)) ∧ Bl w w'

set_option maxRecDepth 100000 in
set_option maxHeartbeats 1600000 in
theorem order_any (va vb : Value) (A B : Int) (w : World) (ha : NatAt w va A) (hb : NatAt w vb B) :
    Calls Try.prog 61 #[va, vb] w (PCmp A B w) := by
  obtain ⟨xs, ⟨oa, ca, rfl, la, hA⟩, da, ta, rfl⟩ := ha
  obtain ⟨ys, ⟨ob, cb, rfl, lb, hB⟩, db, tb, rfl⟩ := hb
  have HA := Lib.hid hA
  have HB := Lib.hid hB
  have DA := Lib.hid da
  have DB := Lib.hid db
  obtain ⟨la1, la2⟩ := la
  obtain ⟨lb1, lb2⟩ := lb
  clear hA hB da db
  by_cases h1 : xs.length < ys.length
  · have e : Hid (cmpV (val xs) (val ys) = -1) := cmpV_lt (len_lt xs ys DA.out DB.out tb h1)
    have hb : ((xs.length : Int) != (ys.length : Int)) = true := by rw [bne_iff_ne]; omega
    clear ta tb
    go_enter Try.func61, Try.ntmps61
    go_wp2
    go_returns
    exact ⟨ret_i e.out.symm, Bl.refl _⟩
  by_cases h2 : ys.length < xs.length
  · have e : Hid (cmpV (val xs) (val ys) = 1) := cmpV_gt (len_lt ys xs DB.out DA.out ta h2)
    have hb : ((xs.length : Int) != (ys.length : Int)) = true := by rw [bne_iff_ne]; omega
    clear ta tb
    go_enter Try.func61, Try.ntmps61
    go_wp2
    go_returns
    exact ⟨ret_i e.out.symm, Bl.refl _⟩
  · have hlen : xs.length = ys.length := by omega
    have hb : ((xs.length : Int) != (ys.length : Int)) = false := by simp; omega
    have HL := Lib.hid hlen
    clear ta tb hlen
    go_enter Try.func61, Try.ntmps61
    go_wp2
    go_loopw [5] (fun v5 wr => ∃ k : Nat, k ≤ xs.length ∧ v5 = .int .i64 ((k : Int) - 1) ∧ xs.drop k = ys.drop k ∧ Bl w wr) (fun v5 _ => (intOf v5 + 1).toNat)
    case atStart => exact ⟨xs.length, Nat.le_refl _, rfl, by rw [List.drop_eq_nil_of_le (Nat.le_refl _), List.drop_eq_nil_of_le (by omega)], Bl.refl _⟩
    case round =>
      obtain ⟨k, hk, rfl, hdr, hbl⟩ := hrel
      have HD := Lib.hid hdr
      clear hdr
      by_cases hk0 : 0 < k
      · obtain ⟨m, rfl⟩ : ∃ m, k = m + 1 := ⟨k - 1, by omega⟩
        obtain ⟨d1, q1⟩ : ∃ d, d = xs[m]?.getD 0 := ⟨_, rfl⟩
        obtain ⟨d2, q2⟩ : ∃ d, d = ys[m]?.getD 0 := ⟨_, rfl⟩
        obtain ⟨b, off, rfl, h3⟩ := HA.out m (by omega)
        obtain ⟨b', off', rfl, h4⟩ := HB.out m (by omega)
        rw [← q1] at h3
        rw [← q2] at h4
        have h5 := hbl.cell h3
        have h6 := hbl.cell h4
        have Q1 := Lib.hid q1
        have Q2 := Lib.hid q2
        clear q1 q2 h3 h4
        rw [show ((m + 1 : Nat) : Int) - 1 = (m : Int) by omega]
        have z0 : (0 : Int) ≤ (m : Int) := by omega
        have z1 : (m : Int) < (xs.length : Int) := by omega
        have z2 : (m : Int) < (ys.length : Int) := by omega
        by_cases hlt : d1 < d2
        · have e : Hid (cmpV (val xs) (val ys) = -1) := cmpV_lt (val_less DA.out DB.out HL.out m (by omega) HD.out (by rw [← Q1.out, ← Q2.out]; exact hlt))
          have hne : (d1 != d2) = true := by rw [bne_iff_ne]; omega
          go_wp2_with fail
          go_quiet (fail)
          go_wp2_with fail
          go_quiet (fail)
          go_wp2_with fail
          go_returns
          exact ⟨ret_i e.out.symm, (hbl.drewN _).drewN _⟩
        by_cases hgt : d2 < d1
        · have e : Hid (cmpV (val xs) (val ys) = 1) := cmpV_gt (val_less DB.out DA.out HL.out.symm m (by omega) HD.out.symm (by rw [← Q1.out, ← Q2.out]; exact hgt))
          have hne : (d1 != d2) = true := by rw [bne_iff_ne]; omega
          go_wp2_with fail
          go_quiet (fail)
          go_wp2_with fail
          go_quiet (fail)
          go_wp2_with fail
          go_returns
          exact ⟨ret_i e.out.symm, (hbl.drewN _).drewN _⟩
        · have hne : (d1 != d2) = false := by simp; omega
          have heq : Hid (d1 = d2) := by show d1 = d2; omega
          go_wp2_with fail
          go_quiet (fail)
          go_wp2_with fail
          go_roundw
          case rel => exact ⟨m, by omega, by go_num, by rw [drop_cons' xs m (by omega), drop_cons' ys m (by omega), ← Q1.out, ← Q2.out, heq.out, HD.out], hbl.trans ((Bl.refl _).drewN _)⟩
          case measure => simp [intOf]
      · obtain rfl : k = 0 := by omega
        have e : Hid (cmpV (val xs) (val ys) = 0) := by
          have := HD.out
          simp only [List.drop_zero] at this
          show cmpV (val xs) (val ys) = 0
          rw [this]; exact cmpV_eq _
        go_wp2_with fail
        go_returns
        exact ⟨ret_i e.out.symm, hbl⟩

def MinusRel (w : World) (xs ys : List Int) (v5 v6 v11 : Value) (wr : World) : Prop := ∃ (k : Nat) (c : Int) (ds : List Int), v11 = .int .i64 k ∧ v6 = .int .i64 c ∧ 0 ≤ c ∧ c ≤ 1 ∧ ds.length = k ∧
  wr.ownsRow w.heap.size 3 1 v5 k (ds.map (Value.int .i64)) ∧ Dig ds ∧ val ds - pw k * c = val (xs.take k) - val (ys.take k) ∧ Bl w wr ∧ k ≤ xs.length
theorem minus_step {w wr w1 : World} {xs ys ds : List Int} {k : Nat} {c c' d : Int} {v v' : Value}
    (HX : ds.length = k ∧ wr.ownsRow w.heap.size 3 1 v k (ds.map (Value.int .i64)) ∧ Dig ds ∧ val ds - pw k * c = val (xs.take k) - val (ys.take k) ∧ Bl w wr)
    (hd0 : 0 ≤ d) (hd1 : d < 1000000000) (c0 : 0 ≤ c') (c1 : c' ≤ 1) (hn : d - 1000000000 * c' = xs[k]?.getD 0 - c - ys[k]?.getD 0) (hlt : k < xs.length)
    (hown : w1.ownsRow w.heap.size 3 1 v' (k + 1) ((ds ++ [d]).map (Value.int .i64))) (hbl : Bl w w1) :
    MinusRel w xs ys v' (.int .i64 c') (.int .i64 ((k : Int) + 1)) w1 := by
  obtain ⟨hl, _, hd, hv, _⟩ := HX
  have e1 := val_take_next xs k
  have e2 := val_take_next ys k
  refine ⟨k + 1, c', ds ++ [d], by go_num, rfl, c0, c1, by simp [hl], hown, dig_snoc hd hd0 hd1, ?_, hbl, hlt⟩
  rw [val_snoc, hl, e1, e2, pw_succ]
  generalize xs[k]?.getD 0 = p at *
  generalize ys[k]?.getD 0 = q at *
  have e4 : pw k * d - 1000000000 * pw k * c' = pw k * (d - 1000000000 * c') := by grind
  have e5 : pw k * (p - c - q) = pw k * p - pw k * c - pw k * q := by grind
  rw [hn] at e4
  omega

set_option maxRecDepth 100000 in
set_option maxHeartbeats 1600000 in
theorem minus_nat (va vb : Value) (A B : Int) (w : World) (ha : NatAt w va A) (hb : NatAt w vb B) (hle : B ≤ A) (hpw : A < pw 1000000) :
    Calls Try.prog 62 #[va, vb] w (PNat (A - B) w) := by
  obtain ⟨xs, ⟨oa, ca, rfl, la, hA⟩, da, ta, rfl⟩ := ha
  obtain ⟨ys, ⟨ob, cb, rfl, lb, hB⟩, db, tb, rfl⟩ := hb
  have HA := Lib.hid hA
  have HB := Lib.hid hB
  have DA := Lib.hid da
  have DB := Lib.hid db
  have lx : xs.length ≤ 1000000 := len_le xs da ta _ hpw
  have hxy : ys.length ≤ xs.length := len_le ys db tb _ (by have := (val_bd xs da).2; omega)
  have HLE := Lib.hid hle
  clear hA hB da db ta tb hle la lb hpw
  go_enter Try.func62, Try.ntmps62
  go_wp2
  go_loopw [5, 6, 11] (fun v5 v6 v11 wr => MinusRel w xs ys v5 v6 v11 wr) (fun _ _ v11 _ => xs.length - (intOf v11).toNat)
  case atStart => exact ⟨0, 0, [], rfl, rfl, by omega, by omega, rfl, World.ownsRow_nil _ _ _ _, dig_nil, by simp [val], Bl.refl _, by omega⟩
  case round =>
    obtain ⟨k, c, ds, rfl, rfl, c0, c1, hl, hown, hd, hv, hbl, hk⟩ := hrel
    have HX := Lib.hid (And.intro hl (And.intro hown (And.intro hd (And.intro hv hbl))))
    clear hl hown hd hv
    obtain ⟨d1, q1⟩ : ∃ d, d = xs[k]?.getD 0 := ⟨_, rfl⟩
    obtain ⟨d2, q2⟩ : ∃ d, d = ys[k]?.getD 0 := ⟨_, rfl⟩
    have b1 := dig_at DA.out k
    have b2 := dig_at DB.out k
    rw [← q1] at b1
    rw [← q2] at b2
    have Q1 := Lib.hid q1
    have Q2 := Lib.hid q2
    clear q1 q2
    by_cases h1 : k < xs.length
    · obtain ⟨b, off, rfl, h3⟩ := HA.out k h1
      rw [← Q1.out] at h3
      have h5 := hbl.cell h3
      clear h3
      by_cases h2 : k < ys.length
      · obtain ⟨b', off', rfl, h4⟩ := HB.out k h2
        rw [← Q2.out] at h4
        have h6 := hbl.cell h4
        clear hbl h4
        by_cases hneg : d1 - c - d2 < 0
        · go_wp2_with (at_builtin; refine app_int Try.underlying47 info_i rfl _ _ rfl w wr _ k ds (d1 - c - d2 + 1000000000) HX.out.2.1 rfl rfl (by omega) HX.out.2.2.2.2 ?_; intro v' w1 hown' hbl')
          exact ⟨minus_step (c' := 1) HX.out (by omega) (by omega) (by omega) (by omega) (by rw [← Q1.out, ← Q2.out]; omega) h1 hown' hbl', by simp [intOf]; omega⟩
        · go_wp2_with (at_builtin; refine app_int Try.underlying47 info_i rfl _ _ rfl w wr _ k ds (d1 - c - d2) HX.out.2.1 rfl rfl (by omega) HX.out.2.2.2.2 ?_; intro v' w1 hown' hbl')
          exact ⟨minus_step (c' := 0) HX.out (by omega) (by omega) (by omega) (by omega) (by rw [← Q1.out, ← Q2.out]; omega) h1 hown' hbl', by simp [intOf]; omega⟩
      · clear hbl
        have Z2 := Lib.hid (getD_of_le ys k (by omega))
        by_cases hneg : d1 - c < 0
        · go_wp2_with (at_builtin; refine app_int Try.underlying47 info_i rfl _ _ rfl w wr _ k ds (d1 - c + 1000000000) HX.out.2.1 rfl rfl (by omega) HX.out.2.2.2.2 ?_; intro v' w1 hown' hbl')
          exact ⟨minus_step (c' := 1) HX.out (by omega) (by omega) (by omega) (by omega) (by rw [← Q1.out, Z2.out]; omega) h1 hown' hbl', by simp [intOf]; omega⟩
        · go_wp2_with (at_builtin; refine app_int Try.underlying47 info_i rfl _ _ rfl w wr _ k ds (d1 - c) HX.out.2.1 rfl rfl (by omega) HX.out.2.2.2.2 ?_; intro v' w1 hown' hbl')
          exact ⟨minus_step (c' := 0) HX.out (by omega) (by omega) (by omega) (by omega) (by rw [← Q1.out, Z2.out]; omega) h1 hown' hbl', by simp [intOf]; omega⟩
    · obtain ⟨hl, hown, hd, hv, _⟩ := HX.out
      have HT := Lib.hid (trim_any _ ds wr (slc_own hown))
      have hsum : Hid (val ds = val xs - val ys) := by
        show val ds = val xs - val ys
        have := hv
        rw [List.take_of_length_le (by omega), List.take_of_length_le (by omega)] at this
        have hb := val_bd ds hd
        have := HLE.out
        rw [hl] at hb
        by_cases hc : c = 1
        · subst hc; omega
        · obtain rfl : c = 0 := by omega
          rw [Int.mul_zero] at *
          omega
      have HD := Lib.hid hd
      clear hl hown hd hv
      go_wp2_with fail
      refine HT.out.mono ?_
      rintro e w1 ⟨v', k', rfl, hk', hs, hw⟩
      go_wp2_with fail
      go_returns
      exact ⟨_, rfl, nat_cut HD.out hsum.out hk' hs hbl hw⟩

theorem plus_nat (va vb : Value) (A B : Int) (w : World) (ha : NatAt w va A) (hb : NatAt w vb B) (hA : A < pw 1000000) (hB : B < pw 1000000) :
    Calls Try.prog 59 #[va, vb] w (PNat (A + B) w) := by
  obtain ⟨xs, h1, h2, h3, rfl⟩ := ha
  obtain ⟨ys, h4, h5, h6, rfl⟩ := hb
  exact plus_digits va vb xs ys w h1 h4 h2 h5 (len_le xs h2 h3 _ hA) (len_le ys h5 h6 _ hB)

set_option maxRecDepth 100000 in
set_option maxHeartbeats 1600000 in
theorem number_any (va : Value) (A : Int) (w : World) (ha : NatAt w va A) (hA : A ≤ 9223372036854775807) :
    Calls Try.prog 64 #[va] w fun e w' => e = .returned (.int .i64 A) ∧ w = w' := by
  obtain ⟨xs, ⟨oa, ca, rfl, la, hc⟩, da, ta, rfl⟩ := ha
  have HA := Lib.hid hc
  have DA := Lib.hid da
  have hlen : xs.length ≤ 3 := len_le xs da ta 3 (by have e : pw 3 = 1000000000000000000000000000 := by decide
                                                     omega)
  have HM := Lib.hid hA
  clear hc da la ta hA
  go_enter Try.func64, Try.ntmps64
  go_wp2
  go_loop [3, 4] (fun v3 v4 => ∃ k : Nat, k ≤ xs.length ∧ v4 = .int .i64 ((k : Int) - 1) ∧ v3 = .int .i64 (val (xs.drop k))) (fun _ v4 => (intOf v4 + 1).toNat)
  case atStart => exact ⟨xs.length, Nat.le_refl _, rfl, by rw [List.drop_eq_nil_of_le (Nat.le_refl _)]; rfl⟩
  case round =>
    obtain ⟨k, hk, rfl, rfl⟩ := hrel
    by_cases hk0 : 0 < k
    · obtain ⟨m, rfl⟩ : ∃ m, k = m + 1 := ⟨k - 1, by omega⟩
      obtain ⟨d1, q1⟩ : ∃ d, d = xs[m]?.getD 0 := ⟨_, rfl⟩
      obtain ⟨b, off, rfl, h3⟩ := HA.out m (by omega)
      rw [← q1] at h3
      have b1 := dig_at DA.out m
      rw [← q1] at b1
      have hv := drop_cons' xs m (by omega)
      rw [← q1] at hv
      have hvd := val_bd _ (dig_drop (m + 1) DA.out)
      have hvd2 := val_bd _ (dig_take m DA.out)
      have hall := val_drop xs m (by omega)
      rw [hv] at hall
      simp only [val] at hall
      have hp := Int.mul_le_mul_of_nonneg_right (show 1 ≤ pw m by have := pw_pos m; omega) (show 0 ≤ d1 + 1000000000 * val (xs.drop (m + 1)) by omega)
      have hM := HM.out
      have hN : Hid (val (xs.drop m) = d1 + 1000000000 * val (xs.drop (m + 1))) := by show val (xs.drop m) = _; rw [hv]; rfl
      have HN2 : 0 ≤ val (xs.drop (m + 1)) ∧ val (xs.drop (m + 1)) * 1000000000 + d1 ≤ 9223372036854775807 := by omega
      generalize val (xs.drop (m + 1)) = V at *
      have Q1 := Lib.hid q1
      clear q1 hv hvd hvd2 hall hp hM
      rw [show ((m + 1 : Nat) : Int) - 1 = (m : Int) by omega]
      have z0 : (0 : Int) ≤ (m : Int) := by omega
      have z1 : (m : Int) < (xs.length : Int) := by omega
      go_wp2_with fail
      go_round
      case rel => exact ⟨m, by omega, by go_num, by rw [hN.out, Int.mul_comm, Int.add_comm]⟩
      case measure => simp [intOf]
    · obtain rfl : k = 0 := by omega
      go_wp2
      go_returns
      exact ⟨by simp, rfl⟩
end Go.Proofs.Ytdienaigmkaheaa
