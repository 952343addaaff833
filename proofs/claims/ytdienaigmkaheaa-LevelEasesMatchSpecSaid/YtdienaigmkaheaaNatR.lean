/- The reference's numbers of digits: the walk of 'divide'. -/
import Derived.Test.YtdienaigmkaheaaNatQ
namespace Go.Proofs.Ytdienaigmkaheaa
open Go.RowKit

set_option maxRecDepth 100000 in
set_option maxHeartbeats 3200000 in
theorem divide_less (va vb : Value) (A B : Int) (w : World) (ha : NatAt w va A) (hb : NatAt w vb B) (h0 : 0 ≤ A) (hlt : A < B) :
    Calls Try.prog 63 #[va, vb] w (PDiv A B w) := by
  have ho := order_any va vb A B w ha hb
  unfold PCmp at ho
  rw [cmpV_lt hlt] at ho
  have HO := Lib.hid ho
  have HA := Lib.hid ha
  have hq : Hid (A / B = 0 ∧ A % B = A) := ⟨Int.ediv_eq_zero_of_lt h0 hlt, Int.emod_eq_of_lt h0 hlt⟩
  clear ho ha hb
  go_enter Try.func63, Try.ntmps63
  go_wp2_with fail
  refine HO.out.mono ?_
  rintro e w1 ⟨rfl, g1⟩
  go_wp2_with fail
  go_returns
  exact ⟨_, _, rfl, by rw [hq.out.1]; exact ⟨[], slc_nil _ _ _ (by omega), dig_nil, Or.inl rfl, rfl⟩, by rw [hq.out.2]; exact HA.out.bl g1, g1⟩

set_option maxRecDepth 100000 in
set_option maxHeartbeats 3200000 in
theorem divide_short (va vb : Value) (A B : Int) (w : World) (ha : NatAt w va A) (hb : NatAt w vb B) (hB : 0 < B) (hB1 : B < 1000000000) (hge : B ≤ A) (hpa : A < pw 10000) :
    Calls Try.prog 63 #[va, vb] w (PDiv A B w) := by
  obtain ⟨cv, hcv⟩ : ∃ c, c = cmpV A B := ⟨_, rfl⟩
  have hcv0 : 0 ≤ cv := by rw [hcv]; unfold cmpV; rw [if_neg (by omega)]; split <;> omega
  have ho := order_any va vb A B w ha hb
  unfold PCmp at ho
  rw [← hcv] at ho
  have HO := Lib.hid ho
  obtain ⟨xs, hxs, dx, tx, rfl⟩ := ha
  obtain ⟨ys, hys, dy, ty, rfl⟩ := hb
  have hlen : ys.length = 1 := by
    have h1 := len_le ys dy ty 1 (by rw [pw_succ, pw_zero]; omega)
    by_cases h : ys.length = 0
    · obtain rfl : ys = [] := List.eq_nil_of_length_eq_zero h
      simp [val] at hB
    · omega
  have hlx : xs.length ≤ 1000000 := by have := len_le xs dx tx _ hpa; omega
  match ys, hlen with
  | [d], _ =>
    have hval : val [d] = d := by simp [val]
    rw [hval] at hB hB1 hge
    rw [hval]
    obtain ⟨h, _⟩ | ⟨b, off, cap, rfl, _, _, _, hc⟩ := hys.open
    · cases h
    have hcd := hc 0 (by simp)
    simp only [Nat.add_zero, List.getElem?_cons_zero, Option.getD_some] at hcd
    have HX := Lib.hid (And.intro hxs dx)
    clear ho hcv hc hys hxs dx tx dy ty hval hpa
    go_enter Try.func63, Try.ntmps63
    go_wp2_with fail
    refine HO.out.mono ?_
    rintro e w1 ⟨rfl, g1⟩
    have hcd1 := g1.cell hcd
    go_wp2_with fail
    refine (short_any va xs d w1 (HX.out.1.bl g1) HX.out.2 hlx (by omega) hB1).mono ?_
    rintro e w2 ⟨v, rfl, hv, g2⟩
    have r0 := Int.emod_nonneg (val xs) (show d ≠ 0 by omega)
    have r1 := Int.emod_lt_of_pos (val xs) (show 0 < d by omega)
    have HV := Lib.hid hv
    clear hv
    generalize hr : val xs % d = r at *
    have HR := Lib.hid hr
    clear hr
    go_wp2_with fail
    refine (small_any r w2 r0 (by omega)).mono ?_
    rintro e w3 ⟨v', rfl, hv', g3⟩
    have HV' := Lib.hid hv'
    clear hv'
    go_wp2_with fail
    go_returns
    exact ⟨_, _, rfl, HV.out.bl g3, by rw [HR.out]; exact HV'.out, (g1.trans g2).trans g3⟩

set_option maxRecDepth 100000 in
set_option maxHeartbeats 6400000 in
theorem divide_long (va vb : Value) (A B : Int) (w : World) (ha : NatAt w va A) (hb : NatAt w vb B) (hB1 : 1000000000 ≤ B) (hge : B ≤ A) (hpa : A < pw 10000) :
    Calls Try.prog 63 #[va, vb] w (PDiv A B w) := by
  obtain ⟨cv, hcv⟩ : ∃ c, c = cmpV A B := ⟨_, rfl⟩
  have hcv0 : 0 ≤ cv := by rw [hcv]; unfold cmpV; rw [if_neg (by omega)]; split <;> omega
  have ho := order_any va vb A B w ha hb
  unfold PCmp at ho
  rw [← hcv] at ho
  have HO := Lib.hid ho
  have hSA := fun w1 (g : Bl w w1) f (f0 : 0 ≤ f) (f1 : f < 1000000000) => scaled_any va A f w1 (ha.bl g) (Int.lt_of_lt_of_le hpa (pw_mono (by omega))) f0 f1
  have hSB := fun w1 (g : Bl w w1) f (f0 : 0 ≤ f) (f1 : f < 1000000000) => scaled_any vb B f w1 (hb.bl g) (Int.lt_of_le_of_lt hge (Int.lt_of_lt_of_le hpa (pw_mono (by omega)))) f0 f1
  have HSA := Lib.hid hSA
  have HSB := Lib.hid hSB
  clear hSA hSB
  obtain ⟨xs, ⟨oa, ca, rfl, hca, _⟩, dx, tx, rfl⟩ := ha
  obtain ⟨ys, hys, dy, ty, rfl⟩ := hb
  have hlx : xs.length ≤ 10000 := len_le xs dx tx _ hpa
  have hly : 2 ≤ ys.length := by
    by_cases h : 2 ≤ ys.length
    · exact h
    · have h1 := (val_bd ys dy).2
      have h2 := pw_mono (show ys.length ≤ 1 by omega)
      have e : pw 1 = 1000000000 := by decide
      omega
  have hyx : ys.length ≤ xs.length := len_le ys dy ty _ (by have := (val_bd xs dx).2; omega)
  rcases hys.open with ⟨h, _⟩ | ⟨b, off, cap, rfl, _, _, _, hc⟩
  · subst h; simp at hly
  obtain ⟨top, htop⟩ : ∃ t, t = ys[ys.length - 1]?.getD 0 := ⟨_, rfl⟩
  have hct := hc (ys.length - 1) (by omega)
  rw [← htop] at hct
  have bt := dig_at dy (ys.length - 1)
  rw [← htop] at bt
  have htop1 : 1 ≤ top := by
    rcases ty with h | h
    · subst h; simp at hly
    · omega
  obtain ⟨f, hf⟩ : ∃ f, f = 1000000000 / (top + 1) := ⟨_, rfl⟩
  obtain ⟨n1, n2, f1, f2⟩ := norm_top htop1 bt.2 hf
  clear n1 n2
  have HNL := Lib.hid (fun (us : List Int) (hu : Dig us) (tu : Trm us) (hv : val us = val ys * f) => norm_len dy ty hu tu (by omega) hv (by rw [← htop]; exact hf))
  have HDS := Lib.hid (fun (ds us : List Int) (hd : Dig ds) (hl : ds.length = xs.length + 1) (hn : us.length = ys.length) (hv : val us = val ys * f) (hX : val ds = val xs * f) => div_start dx dy ty hd (by omega) hl hn hv hX f1 hyx)
  have HF := Lib.hid hf
  have HDX := Lib.hid dx
  have HPOS : Hid (0 < val ys ∧ 0 < val xs) := ⟨by omega, by omega⟩
  clear ho hcv htop hys dx tx dy ty hpa hc hB1 hge hf
  have hneq : ((ys.length : Int) == 1) = false := by simp; omega
  go_enter Try.func63, Try.ntmps63
  go_wp2_with fail
  refine HO.out.mono ?_
  rintro e w1 ⟨rfl, g1⟩
  have hct1 := g1.cell hct
  go_wp2_with fail
  rw [← HF.out]
  refine (HSA.out w1 g1 f (by omega) (by omega)).mono ?_
  rintro e w2 ⟨vx, zs, rfl, ox, dz, tz, hz, g2⟩
  have HZ := Lib.hid (And.intro ox (And.intro dz (And.intro tz hz)))
  clear ox dz tz hz
  go_wp2_with fail
  refine (HSB.out w2 (g1.trans g2) f (by omega) (by omega)).mono ?_
  rintro e w3 ⟨vy, us, rfl, oy, du, tu, hu, g3⟩
  obtain ⟨l1, l2, _, _⟩ := HNL.out us du tu hu
  obtain ⟨gy, cy, rfl, hoy⟩ := own_of oy (by omega)
  have hzl : 0 < zs.length ∧ zs.length ≤ xs.length + 1 := by
    obtain ⟨_, dz, tz, hz⟩ := HZ.out
    have hx := val_bd xs HDX.out
    constructor
    · by_cases h : 0 < zs.length
      · exact h
      · obtain rfl : zs = [] := List.eq_nil_of_length_eq_zero (by omega)
        have := Int.mul_pos HPOS.out.2 (show 0 < f by omega)
        rw [← hz] at this
        simp [val] at this
    · refine len_le zs dz tz _ ?_
      rw [pw_succ, hz]
      have := Int.mul_le_mul_of_nonneg_left (show f ≤ 1000000000 - 1 by omega) hx.1
      omega
  obtain ⟨gx0, cx0, rfl, hox⟩ := own_of HZ.out.1 hzl.1
  have hne0 : gx0 ≠ gy := by have := hox.base; have := hoy.base; omega
  have hU : Own w w3 gy cy us := World.ownsRow.mono hoy (g1.trans g2).size
  have hZ0 : Own w w3 gx0 cx0 zs := Own.later (World.ownsRow.mono hox g1.size) g3
  have U := Lib.hid (And.intro du (And.intro hu (And.intro l1 l2)))
  have HP : Hid (PadRel w gy cy (xs.length + 1) us (val xs * f) (.slice (some ⟨gx0, 0, none⟩) zs.length cx0) w3) :=
    ⟨gx0, cx0, zs, rfl, hZ0, hzl.1, hzl.2, HZ.out.2.1, HZ.out.2.2.2, hne0, hU, (g1.trans g2).trans g3⟩
  have u1 : us.length ≤ ys.length := by omega
  have u2 : ys.length ≤ us.length := by omega
  clear HO HSA HSB HNL hct hct1 du tu hu g3 l1 l2 hoy oy HZ hox hzl hne0 hU hZ0 g1 g2
  go_wp2_with fail
  go_loopw [9] (fun v9 wr => PadRel w gy cy (xs.length + 1) us (val xs * f) v9 wr) (fun v9 _ => xs.length + 1 - slen v9)
  case atStart => exact HP.out
  case round =>
    obtain ⟨gx, cx, ds, rfl, ho, hd0, hd1, hdd, hdv, hne, hoy, hbl⟩ := hrel
    clear HP
    by_cases hlt : ds.length ≤ xs.length
    · have HX := Lib.hid (And.intro ho (And.intro hdd (And.intro hdv (And.intro hne (And.intro hoy hbl)))))
      clear ho hdd hdv hoy hbl hne
      go_wp2_with (at_builtin; refine app_int_at Try.underlying47 info_i rfl _ _ rfl w _ _ ds.length ds 0 HX.out.1 rfl rfl (by omega) HX.out.2.2.2.2.2 ?_; intro v' w1 hown' hbl' hgr hat)
      obtain ⟨ho, hdd, hdv, hne, hoy, hbl⟩ := HX.out
      obtain ⟨g', c', rfl, ho'⟩ := own_of (ds := ds ++ [0]) (by simpa using hown') (by simp)
      refine ⟨⟨g', c', ds ++ [0], by simp, ho', by simp, by simp; omega, dig_snoc hdd (by omega) (by omega), by rw [val_snoc, hdv]; omega, ?_, Own.other hoy hgr (fun e => hne e.symm), hbl'⟩, by simp [slen]; omega⟩
      rcases hat with h | h
      · simp [Value.ownBlock] at h; omega
      · simp [Value.ownBlock] at h; have := hoy.base; omega
    · have hL : ds.length = xs.length + 1 := by omega
      have HV := Lib.hid (HDS.out ds us hdd hL U.out.2.2.1 U.out.2.1 hdv)
      have HX := Lib.hid (And.intro ho (And.intro hdd (And.intro hdv (And.intro hne (And.intro hoy hbl)))))
      have hL1 : xs.length + 1 ≤ ds.length := by omega
      clear ho hdd hdv hoy hL hne
      obtain ⟨i0, hi, hz0, hz1, hz2⟩ := info_parts info_i
      go_wp2_with (at_make; refine wpList_make_full _ rfl _ _ 47 rfl w.heap.size 3 i0 (.int .i64 0) 1 Try.underlying47 hi hz0 hz1 _ _ _ _ (ds.length - us.length) rfl rfl (by omega) (by omega) (by rw [hz2]; omega) (by unfold maxLen; omega) hbl.size ?_; intro w4 hown4 hg4)
      obtain ⟨M, hM⟩ : ∃ M, M = ds.length - us.length := ⟨_, rfl⟩
      obtain ⟨gq, hgq⟩ : ∃ g, g = wr.heap.size := ⟨_, rfl⟩
      obtain ⟨L, hLd⟩ : ∃ L, L = ds.length := ⟨_, rfl⟩
      have hbl4 : Bl w w4 := hbl.grown hg4 (fun k hk => by cases hk)
      have hq0 : Own w w4 gq M (List.replicate M 0) := by rw [hM, hgq]; exact own_made hown4
      have hD : Hid (DvRel w gx cx gy cy gq M L us (val xs * f) (.int .i64 ((M : Int) - 1)) w4) := by
        obtain ⟨ho, hdd, hdv, hne, hoy, _⟩ := HX.out
        have hk4 : ∀ {g c : Nat} {es : List Int}, Own w wr g c es → Own w w4 g c es := fun h => World.ownsRow.kept h hg4 (by simp [Value.ownBlock])
        refine ⟨M, ds, List.replicate M 0, rfl, Nat.le_refl _, hLd.symm, by simp, hk4 ho, hq0, hk4 hoy, hdd, dig_zeros _, ?_, fun i hi => by simp [hi], by rw [val_zeros, hdv]; omega, hbl4⟩
        rw [show M = xs.length + 1 - ys.length by omega]
        exact HV.out
      have hgs : gx ≠ gy ∧ gq ≠ gx ∧ gq ≠ gy := by
        obtain ⟨ho, hdd, hdv, hne, hoy, _⟩ := HX.out
        have := ho.base
        have := hoy.base
        exact ⟨hne, by omega, by omega⟩
      obtain ⟨hg1, hg2, hg3⟩ := hgs
      have hMi : ((ds.length : Int) - (us.length : Int)) = (M : Int) := by omega
      rw [← hM, ← hgq, hMi, ← hLd]
      have hML : M + us.length = L := by omega
      have hL2 : L ≤ 1000000 := by omega
      have HML := Lib.hid hML
      have m1 : M + us.length ≤ L := by omega
      have m2 : L ≤ M + us.length := by omega
      have u3 : 2 ≤ us.length := by omega
      have u4 : us.length ≤ 1000000 := by omega
      clear hown4 hg4 hq0 hi hz0 hz1 hz2 hbl4 hM hgq hLd hMi hML
      go_loopw [13] (fun v13 wr => DvRel w gx cx gy cy gq M L us (val xs * f) v13 wr) (fun v13 _ => (intOf v13 + 1).toNat)
      case atStart => exact hD.out
      case round =>
        obtain ⟨k, ds2, qs, rfl, hk, hl2, hlq, ho2, hoq, hoy2, hd2, hdq, hlt2, hz2, hv2, hbl2⟩ := hrel
        clear hD HX HV hbl
        by_cases hk0 : 0 < k
        · obtain ⟨j, rfl⟩ : ∃ j, k = j + 1 := ⟨k - 1, by omega⟩
          have HX := Lib.hid (And.intro hl2 (And.intro hlq (And.intro ho2 (And.intro hoq (And.intro hoy2 (And.intro hd2 (And.intro hdq (And.intro hlt2 (And.intro hz2 hv2)))))))))
          clear hl2 hlq ho2 hoq hoy2 hd2 hdq hlt2 hz2 hv2
          rw [show ((j + 1 : Nat) : Int) - 1 = (j : Int) by omega]
          have z0 : (0 : Int) ≤ (j : Int) := by omega
          have z1 : (j : Int) < (M : Int) := by omega
          have hG : Hid (Calls Try.prog 75 #[.slice (some ⟨gx, 0, none⟩) L cx, .slice (some ⟨gy, 0, none⟩) us.length cy, .int .i64 j] wr (PGuess (val (ds2.drop j)) (val us) wr)) := by
            obtain ⟨hl2, hlq, ho2, hoq, hoy2, hd2, hdq, hlt2, hz2, hv2⟩ := HX.out
            refine guess_any gx 0 cx L gy 0 cy us.length j _ _ _ _ _ _ _ _ u3 u4 (by omega) hL2 (guess_at hd2 U.out.1 u3 (by omega) hlt2 U.out.2.2.2) ?_ ?_ ?_ ?_ ?_
            · rw [Nat.zero_add]; exact ho2.cell _ (by omega)
            · rw [Nat.zero_add]; exact ho2.cell _ (by omega)
            · rw [Nat.zero_add]; exact ho2.cell _ (by omega)
            · rw [Nat.zero_add]; exact hoy2.cell _ (by omega)
            · rw [Nat.zero_add]; exact hoy2.cell _ (by omega)
          go_wp2_with fail
          refine hG.out.mono ?_
          rintro e w5 ⟨q, rfl, q0, q1, t1, t2, hb5⟩
          clear hG
          obtain ⟨hl2, hlq, ho2, hoq, hoy2, hd2, hdq, hlt2, hz2, hv2⟩ := HX.out
          have ho5 := ho2.later hb5
          have hoq5 := hoq.later hb5
          have hoy5 := hoy2.later hb5
          have hqc := hoq5.cell j (by omega)
          have hqf := hoq5.free j
          have HTT := Lib.hid (And.intro t1 t2)
          have hs5 := hoq5.set j q
          have hos := hoq5.on j q
          have hT : Hid (Calls Try.prog 76 #[.slice (some ⟨gx, 0, none⟩) L cx, .slice (some ⟨gy, 0, none⟩) us.length cy, .int .i64 j, .int .i64 q] (w5.setCell ⟨gq, j, none⟩ (.int .i64 q)) (PTake w (w5.setCell ⟨gq, j, none⟩ (.int .i64 q)) gx cx L j us.length q ds2 us)) := by
            have hox := Own.other ho5 hos (fun e => hg2 e.symm)
            have hoy' := Own.other hoy5 hos (fun e => hg3 e.symm)
            refine take_any w gx cx L gy 0 cy j q ds2 us _ hl2 hL2 hox hd2 U.out.1 (by omega) q0 q1 (fun e => hg1 e.symm) (fun i hi => ?_)
            rw [Nat.zero_add]; exact hoy'.cell i hi
          have HY5 := Lib.hid (And.intro (Own.other hoy5 hos (fun e => hg3 e.symm)) (And.intro hs5 (hb5 : Bl _ _)))
          clear hl2 hlq ho2 hoq hoy2 hd2 hdq hlt2 hz2 hv2 ho5 hoq5 hoy5 t1 t2 hs5 hos
          go_wp2_with fail
          refine hT.out.mono ?_
          rintro e w6 ⟨c, es, rfl, c0, hel, heo, hed, hev, hes, hon6⟩
          have hoq6 := Own.other HY5.out.2.1 hon6 hg2
          have hoy6 := Own.other HY5.out.1 hon6 (fun e => hg1 e.symm)
          have hb6 : Bl w w6 := ((hbl2.trans HY5.out.2.2).setCell (p := ⟨gq, j, none⟩) hoq6.base.1 _).grown hon6 (fun k hk => by cases hk; exact heo.base.1)
          obtain ⟨hl2, hlq, _, _, _, hd2, hdq, hlt2, hz2, hv2⟩ := HX.out
          obtain ⟨t1, t2, t3⟩ := div_take hd2 hed U.out.1 (hel.trans hl2.symm) (by omega) hlt2 hev c0 hes
          have hqc : (qs.set j q)[j]?.getD 0 = q := by rw [List.getElem?_set_self (by omega)]; rfl
          have hcq := hoq6.cell j (by simp; omega)
          rw [hqc] at hcq
          have hfq := hoq6.free j
          by_cases hc : 0 < c
          · have hoq7 := hoq6.set j (q - 1)
            have hon7 := hoq6.on j (q - 1)
            have hG2 : Hid (Calls Try.prog 77 #[.slice (some ⟨gx, 0, none⟩) L cx, .slice (some ⟨gy, 0, none⟩) us.length cy, .int .i64 j] (w6.setCell ⟨gq, j, none⟩ (.int .i64 (q - 1))) (PGive w (w6.setCell ⟨gq, j, none⟩ (.int .i64 (q - 1))) gx cx L j us.length es us)) := by
              refine give_any w gx cx L gy 0 cy j es us _ hel hL2 (Own.other heo hon7 (fun e => hg2 e.symm)) hed U.out.1 (by omega) (fun e => hg1 e.symm) (fun i hi => ?_)
              rw [Nat.zero_add]; exact (Own.other hoy6 hon7 (fun e => hg3 e.symm)).cell i hi
            have HW := Lib.hid (And.intro hoq7 (And.intro (Own.other hoy6 hon7 (fun e => hg3 e.symm)) (And.intro hb6 (And.intro t1 (And.intro t2 (And.intro t3 (And.intro hel (And.intro hed hes))))))))
            clear hl2 hlq hd2 hdq hlt2 hz2 hv2 t1 t2 t3 hqc hoq7 hon7 hoq6 hoy6 hb6 hel heo hed hev hes hon6
            go_wp2_with fail
            refine hG2.out.mono ?_
            rintro e w7 ⟨c2, es2, ⟨v7, rfl⟩, d0, d1, hel2, heo2, hed2, hev2, hes2, hon7⟩
            obtain ⟨hl2, hlq, _, _, _, hd2, hdq, hlt2, hz2, hv2⟩ := HX.out
            obtain ⟨hoq7, hoy7, hb6, t1, t2, t3, hel, hed, hes⟩ := HW.out
            have hFin : Hid (DvRel w gx cx gy cy gq M L us (val xs * f) (.int .i64 ((j : Int) - 1)) w7) := by
              obtain ⟨r1, r2, r3⟩ := give_fin hd2 hed hed2 U.out.1 hdq (hel.trans hl2.symm) (hel2.trans hel.symm) (by omega) (by omega) HTT.out.2 t1 t2 t3 hc d0 d1 hev2 hes hes2 U.out.2.1 HPOS.out.1 f1 hv2 (hz2 j (by omega)) q0 q1
              have hset : (qs.set j q).set j (q - 1) = qs.set j (q - 1) := List.set_set _
              rw [hset] at hoq7
              refine ⟨j, es2, qs.set j (q - 1), rfl, by omega, hel2, by simp [hlq], heo2, Own.other hoq7 hon7 hg2, Own.other hoy7 hon7 (fun e => hg1 e.symm), hed2, r3, r1, fun i hi => ?_, r2, ?_⟩
              · rw [List.getElem?_set_ne (by omega)]; exact hz2 i (by omega)
              · exact (hb6.setCell (p := ⟨gq, j, none⟩) (World.ownsRow.lt hoq7 gq rfl).1 _).grown hon7 (fun k hk => by cases hk; exact heo2.base.1)
            clear hl2 hlq hd2 hdq hlt2 hz2 hv2 hoq7 hoy7 hb6 t1 t2 t3 hel hed hes hel2 heo2 hed2 hev2 hes2 hon7
            go_wp2_with fail
            exact ⟨hFin.out, by simp [intOf]⟩
          · have hFin : Hid (DvRel w gx cx gy cy gq M L us (val xs * f) (.int .i64 ((j : Int) - 1)) w6) := by
              obtain ⟨r1, r2⟩ := div_done HTT.out.1 t1 t2 (by omega)
              refine ⟨j, es, qs.set j q, rfl, by omega, hel, by simp [hlq], heo, hoq6, hoy6, hed, dig_set hdq _ _ q0 q1, r1, fun i hi => ?_, ?_, hb6⟩
              · rw [List.getElem?_set_ne (by omega)]; exact hz2 i (by omega)
              · exact div_fin (hel.trans hl2.symm) (by omega) (by omega) (fun i hi => hes i (Or.inl hi)) r2 hv2 (hz2 j (by omega))
            clear hl2 hlq hd2 hdq hlt2 hz2 hv2 t1 t2 t3 hqc hoq6 hoy6 hb6 hel heo hed hev hes hon6
            go_wp2_with fail
            exact ⟨hFin.out, by simp [intOf]⟩
        · obtain rfl : k = 0 := by omega
          simp only [List.drop_zero] at hlt2
          have hEnd := Lib.hid (div_end f1 HPOS.out.1 rfl U.out.2.1 hv2 (val_bd ds2 hd2).1 hlt2)
          have HTX := Lib.hid (trim_any _ ds2 wr ho2.slc)
          rw [hl2] at HTX
          have HTQ := Lib.hid (fun w5 (g : Bl wr w5) => trim_any _ qs w5 (hoq.slc.bl g))
          rw [hlq] at HTQ
          have HD := Lib.hid (And.intro hd2 hdq)
          have hl3 : ds2.length ≤ L := by omega
          clear hl2 hlq ho2 hoq hoy2 hd2 hdq hlt2 hz2 hv2
          go_wp2_with fail
          refine HTX.out.mono ?_
          rintro e w5 ⟨v', k', rfl, hk', hs, rfl⟩
          have HS := Lib.hid (And.intro hk' hs)
          clear hk' hs
          go_wp2_with fail
          refine (short_any v' (ds2.take k') f _ HS.out.2 (dig_take _ HD.out.1) (by simp; omega) f1 (by omega)).mono ?_
          rintro e w6 ⟨v6, rfl, hv6, g6⟩
          have HV6 := Lib.hid hv6
          clear hv6
          go_wp2_with fail
          refine (HTQ.out _ g6).mono ?_
          rintro e w7 ⟨v7, k7, rfl, hk7, hs7, rfl⟩
          have HS7 := Lib.hid (And.intro hk7 hs7)
          clear hk7 hs7
          go_wp2_with fail
          go_returns
          refine ⟨_, _, rfl, ?_, ?_, hbl2.trans g6⟩
          · exact ⟨_, HS7.out.2, dig_take _ HD.out.2, cut_trm HS7.out.1, (cut_val HS7.out.1).trans hEnd.out.1⟩
          · have := HV6.out
            rw [cut_val HS.out.1, hEnd.out.2] at this
            exact this

theorem divide_any (va vb : Value) (A B : Int) (w : World) (ha : NatAt w va A) (hb : NatAt w vb B) (h0 : 0 ≤ A) (hB : 0 < B) (hpa : A < pw 10000) :
    Calls Try.prog 63 #[va, vb] w (PDiv A B w) := by
  by_cases h1 : A < B
  · exact divide_less va vb A B w ha hb h0 h1
  by_cases h2 : B < 1000000000
  · exact divide_short va vb A B w ha hb hB h2 (by omega) hpa
  · exact divide_long va vb A B w ha hb (by omega) (by omega) hpa
end Go.Proofs.Ytdienaigmkaheaa
