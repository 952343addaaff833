/- The reference's numbers of digits: times. -/
import Derived.Test.YtdienaigmkaheaaNatA
import Derived.Laws.OwnMore
import Derived.Test.YtdienaigmkaheaaOwnR
namespace Go.Proofs.Ytdienaigmkaheaa
open Go.RowKit

theorem dig_zeros (n : Nat) : Dig (List.replicate n 0) := by
  rw [dig_mem]; intro d hd; rw [(List.mem_replicate.1 hd).2]; omega

def ToRel (w : World) (g L : Nat) (xs ys : List Int) (v19 : Value) (wr : World) : Prop := ∃ (i : Nat) (ds : List Int), v19 = .int .i64 i ∧ i ≤ xs.length ∧ ds.length = L ∧ Own w wr g L ds ∧ Dig ds ∧ val ds = val (xs.take i) * val ys ∧ Bl w wr
def TiRel (w : World) (g L i : Nat) (x V0 : Int) (ds0 ys : List Int) (v7 v8 : Value) (wr : World) : Prop := ∃ (k : Nat) (c : Int) (ds : List Int), v8 = .int .i64 k ∧ v7 = .int .i64 c ∧ 0 ≤ c ∧ c < 1000000000 ∧ ds.length = L ∧
  Own w wr g L ds ∧ Dig ds ∧ val ds + pw (i + k) * c = V0 + pw i * (x * val (ys.take k)) ∧ (∀ j, i + k ≤ j → ds[j]?.getD 0 = ds0[j]?.getD 0) ∧ k ≤ ys.length + 1 ∧ (k = ys.length + 1 → c = 0) ∧ Bl w wr

theorem prod_bd {a b : Int} (a0 : 0 ≤ a) (a1 : a < 1000000000) (b0 : 0 ≤ b) (b1 : b < 1000000000) : 0 ≤ a * b ∧ a * b ≤ 999999998000000001 := by
  have h1 := Int.mul_nonneg a0 b0
  have h2 : a * b ≤ 999999999 * 999999999 := Int.mul_le_mul (by omega) (by omega) b0 (by omega)
  omega

theorem times_step {w wr w1 : World} {g L i : Nat} {x V0 : Int} {ds0 ds ys : List Int} {k : Nat} {c n : Int}
    (HX : ds.length = L ∧ Own w wr g L ds ∧ Dig ds ∧ val ds + pw (i + k) * c = V0 + pw i * (x * val (ys.take k)) ∧ (∀ j, i + k ≤ j → ds[j]?.getD 0 = ds0[j]?.getD 0))
    (hn : n = ds[i + k]?.getD 0 + c + x * ys[k]?.getD 0) (n0 : 0 ≤ n) (n1 : n < 1000000000000000000) (hL : i + k < L) (hk : k ≤ ys.length) (hlast : k = ys.length → n < 1000000000)
    (hown : Own w w1 g L (ds.set (i + k) (n % 1000000000))) (hbl : Bl w w1) :
    TiRel w g L i x V0 ds0 ys (.int .i64 (n / 1000000000)) (.int .i64 ((k : Int) + 1)) w1 := by
  obtain ⟨hl, _, hd, hv, hz⟩ := HX
  refine ⟨k + 1, n / 1000000000, ds.set (i + k) (n % 1000000000), by go_num, rfl, by omega, by omega, by simp [hl], hown, dig_set hd _ _ (by omega) (by omega), ?_, fun j hj => ?_, by omega, fun he => ?_, hbl⟩
  · rw [val_set ds (i + k) _ (by omega), ← Nat.add_assoc, pw_succ, val_take_next ys k]
    have e3 : n = 1000000000 * (n / 1000000000) + n % 1000000000 := by omega
    generalize n / 1000000000 = q at *
    generalize n % 1000000000 = r at *
    have e4 : pw i * (x * (val (ys.take k) + pw k * ys[k]?.getD 0)) = pw i * (x * val (ys.take k)) + pw (i + k) * (x * ys[k]?.getD 0) := by rw [pw_add]; grind
    have e5 : pw (i + k) * n = pw (i + k) * (ds[i + k]?.getD 0) + pw (i + k) * c + pw (i + k) * (x * ys[k]?.getD 0) := by rw [hn]; grind
    have e6 : pw (i + k) * n = 1000000000 * pw (i + k) * q + pw (i + k) * r := by rw [e3]; grind
    have e7 : pw (i + k) * (r - ds[i + k]?.getD 0) = pw (i + k) * r - pw (i + k) * (ds[i + k]?.getD 0) := by grind
    omega
  · rw [List.getElem?_set_ne (by omega)]
    exact hz j (by omega)
  · have := hlast (by omega); omega

set_option maxRecDepth 100000 in
set_option maxHeartbeats 3200000 in
theorem times_nat (va vb : Value) (A B : Int) (w : World) (ha : NatAt w va A) (hb : NatAt w vb B) (hpa : A < pw 100000) (hpb : B < pw 100000) :
    Calls Try.prog 58 #[va, vb] w (PNat (A * B) w) := by
  obtain ⟨xs, ⟨oa, ca, rfl, la, hA⟩, da, ta, rfl⟩ := ha
  obtain ⟨ys, ⟨ob, cb, rfl, lb, hB⟩, db, tb, rfl⟩ := hb
  have HA := Lib.hid hA
  have HB := Lib.hid hB
  have DA := Lib.hid da
  have DB := Lib.hid db
  have lx : xs.length ≤ 100000 := len_le xs da ta _ hpa
  have ly : ys.length ≤ 100000 := len_le ys db tb _ hpb
  clear hA hB da db ta tb la lb hpa hpb
  obtain ⟨i0, hi, hz0, hz1, hz2⟩ := info_parts info_i
  go_enter Try.func58, Try.ntmps58
  go_wp2_with (at_make; refine wpList_make_full _ rfl _ _ 47 rfl w.heap.size 3 i0 (.int .i64 0) 1 Try.underlying47 hi hz0 hz1 _ _ _ _ (xs.length + ys.length + 1) rfl rfl (by omega) (by omega) (by rw [hz2]; omega) (by unfold maxLen; omega) (Nat.le_refl _) ?_; intro w1 hown1 hg1)
  have hbl1 : Bl w w1 := (Bl.refl _).grown hg1 (fun k hk => by cases hk)
  have HO := Lib.hid (own_made hown1)
  clear hown1 hg1 hi hz0 hz1 hz2
  obtain ⟨L, hL⟩ : ∃ L, L = xs.length + ys.length + 1 := ⟨_, rfl⟩
  obtain ⟨g, hg⟩ : ∃ g, g = w.heap.size := ⟨_, rfl⟩
  rw [← hL, ← hg] at HO
  rw [← hL, ← hg]
  have HLL := Lib.hid hL
  have hL1 : xs.length + ys.length + 1 ≤ L := by omega
  have hL2 : L ≤ xs.length + ys.length + 1 := by omega
  clear hL hg
  go_loopw [19] (fun v19 wr => ToRel w g L xs ys v19 wr) (fun v19 _ => xs.length - (intOf v19).toNat)
  case atStart => exact ⟨0, List.replicate L 0, rfl, Nat.zero_le _, by simp, HO.out, dig_zeros _, by simp [val_zeros, val], hbl1⟩
  case round =>
    obtain ⟨i, ds0, rfl, hi, hl0, hown0, hd0, hv0, hbl0⟩ := hrel
    by_cases hlt : i < xs.length
    · obtain ⟨x, q1⟩ : ∃ d, d = xs[i]?.getD 0 := ⟨_, rfl⟩
      obtain ⟨b, off, rfl, h3⟩ := HA.out i hlt
      rw [← q1] at h3
      have bx := DA.out i hlt
      rw [← q1] at bx
      have HZ : Hid (∀ j, i + ys.length ≤ j → ds0[j]?.getD 0 = 0) := by
        intro j hj
        refine zeros_above hd0 (i + ys.length) ?_ j hj
        rw [hv0, pw_add]
        have t1 := val_bd _ (dig_take i DA.out)
        have t2 := val_bd _ DB.out
        rw [List.length_take, Nat.min_eq_left (by omega)] at t1
        have t3 : val (xs.take i) * val ys ≤ (pw i - 1) * val ys := Int.mul_le_mul_of_nonneg_right (by omega) t2.1
        have t4 : (pw i - 1) * val ys ≤ (pw i - 1) * pw ys.length := Int.mul_le_mul_of_nonneg_left (by omega) (by have := pw_pos i; omega)
        have t5 : (pw i - 1) * pw ys.length = pw i * pw ys.length - pw ys.length := by grind
        have := pw_pos ys.length
        omega
      have HX0 := Lib.hid (And.intro hl0 (And.intro hown0 (And.intro hd0 (And.intro hv0 hbl0))))
      have Q1 := Lib.hid q1
      clear hl0 hown0 hd0 hv0 q1
      go_wp2_with fail
      go_loopw [7, 8] (fun v7 v8 wr2 => TiRel w g L i x (val ds0) ds0 ys v7 v8 wr2) (fun _ v8 _ => ys.length + 1 - (intOf v8).toNat)
      case atStart => exact ⟨0, 0, ds0, rfl, rfl, by omega, by omega, HX0.out.1, HX0.out.2.1, HX0.out.2.2.1, by simp [val], fun _ _ => rfl, by omega, fun _ => rfl, hbl0⟩
      case round =>
        obtain ⟨k, c, ds, rfl, rfl, c0, c1, hl, hown, hd, hv, hz, hk, hkc, hbl⟩ := hrel
        have HX := Lib.hid (And.intro hl (And.intro hown (And.intro hd (And.intro hv hz))))
        have hcell : i + k < L → _ := fun h => hown.cell (i + k) (by omega)
        have hfree := hown.free (i + k)
        have HBL := Lib.hid hbl
        obtain ⟨p, hp⟩ : ∃ p, p = ds[i + k]?.getD 0 := ⟨_, rfl⟩
        rw [← hp] at hcell
        have bp := dig_at hd (i + k)
        rw [← hp] at bp
        have P1 := Lib.hid hp
        have h5 := hbl.cell h3
        clear hl hd hv hz hown hp
        by_cases h2 : k < ys.length
        · obtain ⟨y, q2⟩ : ∃ d, d = ys[k]?.getD 0 := ⟨_, rfl⟩
          obtain ⟨b', off', rfl, h4⟩ := HB.out k h2
          rw [← q2] at h4
          have by' := DB.out k h2
          rw [← q2] at by'
          have h6 := hbl.cell h4
          have hcell' := hcell (by omega)
          have hxy := prod_bd bx.1 bx.2 by'.1 by'.2
          have Q2 := Lib.hid q2
          clear q2 hcell hkc hbl h4
          have z1 : (0 : Int) ≤ (i : Int) + (k : Int) := by omega
          have z2 : (i : Int) + (k : Int) < (L : Int) := by omega
          go_wp2_with fail
          go_quiet (fail)
          go_wp2_with fail
          exact ⟨times_step (n := p + c + x * y) HX.out (by rw [P1.out, Q2.out]) (by omega) (by omega) (by omega) (by omega) (by omega) ((HX.out.2.1.drewN nq).set _ _) ((HX.out.2.1.drewN nq).bl (HBL.out.drewN nq) _ _), by simp [intOf]; omega⟩
        · by_cases hc : 0 < c
          · have hkl : k ≤ ys.length := by
              by_cases he : k = ys.length + 1
              · have := hkc he; omega
              · omega
            have hp0 : Hid (p = 0) := by
              show p = 0
              rw [P1.out, HX.out.2.2.2.2 _ (Nat.le_refl _)]
              exact HZ.out _ (by omega)
            have Y0 := Lib.hid (getD_of_le ys k (by omega))
            have hcell' := hcell (by omega)
            clear hcell hkc hbl
            have z1 : (0 : Int) ≤ (i : Int) + (k : Int) := by omega
            have z2 : (i : Int) + (k : Int) < (L : Int) := by omega
            go_wp2_with fail
            exact ⟨times_step (n := p + c) HX.out (by rw [P1.out, Y0.out, Int.mul_zero, Int.add_zero]) (by omega) (by omega) (by omega) (by omega) (fun _ => by have := hp0.out; omega) (HX.out.2.1.set _ _) (HX.out.2.1.bl HBL.out _ _), by simp [intOf]; omega⟩
          · have hc0 : Hid (c = 0) := by show c = 0; omega
            clear hcell hkc hbl
            go_wp2_with fail
            refine ⟨⟨i + 1, ds, by go_num, hlt, HX.out.1, HX.out.2.1, HX.out.2.2.1, ?_, HBL.out⟩, by simp [intOf]; omega⟩
            have hv := HX.out.2.2.2.1
            rw [hc0.out, Int.mul_zero, Int.add_zero, List.take_of_length_le (by omega), HX0.out.2.2.2.1] at hv
            rw [hv, val_take_next xs i, ← Q1.out]
            grind
    · have HT := Lib.hid (trim_any _ ds0 wr hown0.slc)
      rw [hl0] at HT
      have hv : Hid (val ds0 = val xs * val ys) := by
        show val ds0 = val xs * val ys
        rw [hv0, List.take_of_length_le (by omega)]
      have HD := Lib.hid hd0
      clear hl0 hown0 hd0 hv0
      go_wp2_with fail
      refine HT.out.mono ?_
      rintro e w1 ⟨v', k', rfl, hk', hs, hw⟩
      go_wp2_with fail
      go_returns
      exact ⟨_, rfl, nat_cut HD.out hv.out hk' hs hbl0 hw⟩
end Go.Proofs.Ytdienaigmkaheaa
