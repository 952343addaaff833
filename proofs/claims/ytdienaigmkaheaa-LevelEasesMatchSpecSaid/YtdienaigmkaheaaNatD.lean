/- The reference's numbers of digits: scaled, short. -/
import Derived.Test.YtdienaigmkaheaaNatT
namespace Go.Proofs.Ytdienaigmkaheaa
open Go.RowKit

/-- A row of the call's own, cut. -/
def PCutOwn (W : World) (ds : List Int) (w : World) (e : Ending) (w' : World) : Prop := ∃ v k, e = .returned v ∧ Cut ds k ∧ w.ownsRow W.heap.size 3 1 v k ((ds.take k).map (Value.int .i64)) ∧ w = w'
theorem trim_own (W w : World) (v : Value) (n : Nat) (ds : List Int) (h : w.ownsRow W.heap.size 3 1 v n (ds.map (Value.int .i64))) :
    Calls Try.prog 71 #[v] w (PCutOwn W ds w) := by
  have hn : ds.length = n := by have := h.1; simpa using this
  subst hn
  rcases (slc_own h).open with ⟨rfl, o, cap, rfl, hc⟩ | ⟨b, off, cap, rfl, h0, h1, h2, h3⟩
  · exact (trim_nil o cap w).mono fun _ _ ⟨he, hw⟩ => ⟨_, 0, he, ⟨Nat.zero_le _, fun i _ hi => absurd hi (Nat.not_lt_zero _), Or.inl rfl⟩, h, hw⟩
  · refine (trim_some b off cap ds w h0 h1 h2 h3).mono fun _ _ ⟨k, he, hk, hw⟩ => ⟨_, k, he, hk, ?_, hw⟩
    refine ⟨by simp [Nat.min_eq_left hk.1], ?_⟩
    rcases h.2 with ⟨he, _⟩ | ⟨g, cap', cur, he, hb, hg, hc, hm, hcs, ht⟩
    · cases he
    · simp only [Value.slice.injEq, Option.some.injEq, Addr.mk.injEq, and_true, true_and] at he
      obtain ⟨⟨rfl, rfl⟩, rfl⟩ := he
      refine Or.inr ⟨b, cap, cur, rfl, hb, hg, by have := hk.1; omega, hm, hcs, ?_⟩
      rw [List.map_take, ← ht, List.take_take, Nat.mul_one, Nat.mul_one, Nat.min_eq_left hk.1]

def PScaled (N : Int) (w : World) (e : Ending) (w' : World) : Prop := ∃ v zs, e = .returned v ∧ w'.ownsRow w.heap.size 3 1 v zs.length (zs.map (Value.int .i64)) ∧ Dig zs ∧ Trm zs ∧ val zs = N ∧ Bl w w'
def ScRel (w : World) (n : Int) (xs : List Int) (v5 v6 v11 : Value) (wr : World) : Prop := ∃ (k : Nat) (c : Int) (ds : List Int), v11 = .int .i64 k ∧ v6 = .int .i64 c ∧ 0 ≤ c ∧ c < 1000000000 ∧ ds.length = k ∧
  wr.ownsRow w.heap.size 3 1 v5 k (ds.map (Value.int .i64)) ∧ Dig ds ∧ val ds + pw k * c = val (xs.take k) * n ∧ Bl w wr ∧ k ≤ xs.length
def Sc2Rel (w : World) (L : Nat) (N : Int) (v5 v6 : Value) (wr : World) : Prop := ∃ (k : Nat) (c : Int) (ds : List Int), v6 = .int .i64 c ∧ 0 ≤ c ∧ c < 1000000000 ∧ ds.length = k ∧
  wr.ownsRow w.heap.size 3 1 v5 k (ds.map (Value.int .i64)) ∧ Dig ds ∧ val ds + pw k * c = N ∧ Bl w wr ∧ (k ≤ L ∨ k = L + 1 ∧ c = 0)

set_option maxRecDepth 100000 in
set_option maxHeartbeats 3200000 in
theorem scaled_any (va : Value) (A n : Int) (w : World) (ha : NatAt w va A) (hpa : A < pw 100000) (n0 : 0 ≤ n) (n1 : n < 1000000000) :
    Calls Try.prog 74 #[va, .int .i64 n] w (PScaled (A * n) w) := by
  obtain ⟨xs, ⟨oa, ca, rfl, la, hA⟩, da, ta, rfl⟩ := ha
  have HA := Lib.hid hA
  have DA := Lib.hid da
  have lx : xs.length ≤ 100000 := len_le xs da ta _ hpa
  clear hA da ta la hpa
  go_enter Try.func74, Try.ntmps74
  go_wp2
  go_loopw [5, 6, 11] (fun v5 v6 v11 wr => ScRel w n xs v5 v6 v11 wr) (fun _ _ v11 _ => xs.length - (intOf v11).toNat)
  case atStart => exact ⟨0, 0, [], rfl, rfl, by omega, by omega, rfl, World.ownsRow_nil _ _ _ _, dig_nil, by simp [val], Bl.refl _, by omega⟩
  case round =>
    obtain ⟨k, c, ds, rfl, rfl, c0, c1, hl, hown, hd, hv, hbl, hk⟩ := hrel
    have HX := Lib.hid (And.intro hl (And.intro hown (And.intro hd (And.intro hv hbl))))
    clear hl hown hd hv
    by_cases h1 : k < xs.length
    · obtain ⟨d, q1⟩ : ∃ d, d = xs[k]?.getD 0 := ⟨_, rfl⟩
      have b1 := dig_at DA.out k
      rw [← q1] at b1
      obtain ⟨b, off, rfl, h3⟩ := HA.out k h1
      rw [← q1] at h3
      have h5 := hbl.cell h3
      have Q1 := Lib.hid q1
      clear q1 h3 hbl
      have hdn := prod_bd b1.1 b1.2 n0 n1
      go_wp2_with (at_builtin; refine app_int Try.underlying47 info_i rfl _ _ rfl w wr _ k ds ((d * n + c) % 1000000000) HX.out.2.1 rfl rfl (by omega) HX.out.2.2.2.2 ?_; intro v' w1 hown' hbl')
      refine ⟨⟨k + 1, (d * n + c) / 1000000000, ds ++ [(d * n + c) % 1000000000], by go_num, rfl, by omega, by omega, by simp [HX.out.1], hown', dig_snoc HX.out.2.2.1 (by omega) (by omega), ?_, hbl', h1⟩, by simp [intOf]; omega⟩
      rw [val_snoc, HX.out.1, val_take_next xs k, ← Q1.out, pw_succ]
      have hv := HX.out.2.2.2.1
      have e3 : d * n + c = 1000000000 * ((d * n + c) / 1000000000) + (d * n + c) % 1000000000 := by omega
      generalize (d * n + c) / 1000000000 = q at *
      generalize (d * n + c) % 1000000000 = r at *
      have e4 : (val (xs.take k) + pw k * d) * n = val (xs.take k) * n + pw k * (d * n + c) - pw k * c := by grind
      have e5 : pw k * (d * n + c) = 1000000000 * pw k * q + pw k * r := by rw [e3]; grind
      omega
    · have hkl : k = xs.length := by omega
      have hN : Hid (val ds + pw k * c = val xs * n) := by
        show _ = _
        rw [HX.out.2.2.2.1, List.take_of_length_le (by omega)]
      clear hkl
      go_wp2_with fail
      go_loopw [5, 6] (fun v5 v6 wr2 => Sc2Rel w xs.length (val xs * n) v5 v6 wr2) (fun _ v6 _ => (intOf v6).toNat)
      case atStart => exact ⟨k, c, ds, rfl, c0, c1, HX.out.1, HX.out.2.1, HX.out.2.2.1, hN.out, hbl, Or.inl hk⟩
      case round =>
        obtain ⟨k2, c2, ds2, rfl, c20, c21, hl2, hown2, hd2, hv2, hbl2, hk2⟩ := hrel
        by_cases hc : 0 < c2
        · have HX2 := Lib.hid (And.intro hl2 (And.intro hown2 (And.intro hd2 (And.intro hv2 hbl2))))
          have hk3 : k2 ≤ xs.length := by omega
          clear hl2 hown2 hd2 hv2 hbl2 hk2
          go_wp2_with (at_builtin; refine app_int Try.underlying47 info_i rfl _ _ rfl w _ _ k2 ds2 (c2 % 1000000000) HX2.out.2.1 rfl rfl (by omega) HX2.out.2.2.2.2 ?_; intro v' w1 hown' hbl')
          refine ⟨⟨k2 + 1, c2 / 1000000000, ds2 ++ [c2 % 1000000000], rfl, by omega, by omega, by simp [HX2.out.1], hown', dig_snoc HX2.out.2.2.1 (by omega) (by omega), ?_, hbl', ?_⟩, by simp [intOf]; omega⟩
          · rw [val_snoc, HX2.out.1, ← HX2.out.2.2.2.1, show c2 / 1000000000 = 0 by omega, show c2 % 1000000000 = c2 by omega, Int.mul_zero, Int.add_zero]
          · by_cases he : k2 + 1 ≤ xs.length
            · exact Or.inl he
            · exact Or.inr ⟨by omega, by omega⟩
        · have HT := Lib.hid (trim_own w _ _ k2 ds2 hown2)
          have hv : Hid (val ds2 = val xs * n) := by
            show val ds2 = val xs * n
            rw [← hv2, show c2 = 0 by omega, Int.mul_zero, Int.add_zero]
          have HD := Lib.hid hd2
          clear hl2 hown2 hd2 hv2 hk2
          go_wp2_with fail
          refine HT.out.mono ?_
          rintro e w1 ⟨v', k', rfl, hk', hs, rfl⟩
          go_wp2_with fail
          go_returns
          have e1 : (ds2.take k').length = k' := by simp [Nat.min_eq_left hk'.1]
          exact ⟨_, ds2.take k', rfl, by rw [e1]; exact hs, dig_take _ HD.out, cut_trm hk', (cut_val hk').trans hv.out, hbl2⟩

theorem ret_t {a : Value} {k : IntKind} {r r' : Int} (h : r = r') : Ending.returned (.tuple #[a, .int k r]) = .returned (.tuple #[a, .int k r']) := by rw [h]
def ShRel (w : World) (g : Nat) (n : Int) (xs : List Int) (v7 v8 : Value) (wr : World) : Prop := ∃ (k : Nat) (r : Int) (ds : List Int), v8 = .int .i64 ((k : Int) - 1) ∧ v7 = .int .i64 r ∧ 0 ≤ r ∧ r < n ∧ ds.length = xs.length ∧
  Own w wr g xs.length ds ∧ Dig ds ∧ val (ds.drop k) * n + r = val (xs.drop k) ∧ Bl w wr ∧ k ≤ xs.length
def PShort (A n : Int) (w : World) (e : Ending) (w' : World) : Prop := ∃ v, e = .returned (.tuple #[v, .int .i64 (A % n)]) ∧ NatAt w' v (A / n) ∧ Bl w w'

set_option maxRecDepth 100000 in
set_option maxHeartbeats 3200000 in
theorem short_any (va : Value) (xs : List Int) (n : Int) (w : World) (ha : Slc w va xs) (da : Dig xs) (lx : xs.length ≤ 1000000) (n0 : 1 ≤ n) (n1 : n < 1000000000) :
    Calls Try.prog 73 #[va, .int .i64 n] w (PShort (val xs) n w) := by
  obtain ⟨oa, ca, rfl, la, hA⟩ := ha
  have HA := Lib.hid hA
  have DA := Lib.hid da
  clear hA da la
  obtain ⟨i0, hi, hz0, hz1, hz2⟩ := info_parts info_i
  go_enter Try.func73, Try.ntmps73
  go_wp2_with (at_make; refine wpList_make_full _ rfl _ _ 47 rfl w.heap.size 3 i0 (.int .i64 0) 1 Try.underlying47 hi hz0 hz1 _ _ _ _ xs.length rfl rfl rfl rfl (by rw [hz2]; omega) (by unfold maxLen; omega) (Nat.le_refl _) ?_; intro w1 hown1 hg1)
  have hbl1 : Bl w w1 := (Bl.refl _).grown hg1 (fun k hk => by cases hk)
  have HO := Lib.hid (own_made hown1)
  clear hown1 hg1 hi hz0 hz1 hz2
  obtain ⟨g, hg⟩ : ∃ g, g = w.heap.size := ⟨_, rfl⟩
  rw [← hg] at HO
  rw [← hg]
  clear hg
  have hb : (n == 0) = false := by simp; omega
  go_loopw [7, 8] (fun v7 v8 wr => ShRel w g n xs v7 v8 wr) (fun _ v8 _ => (intOf v8 + 1).toNat)
  case atStart => exact ⟨xs.length, 0, List.replicate xs.length 0, rfl, rfl, by omega, by omega, by simp, HO.out, dig_zeros _, by rw [List.drop_eq_nil_of_le (by simp), List.drop_eq_nil_of_le (Nat.le_refl _)]; simp [val], hbl1, Nat.le_refl _⟩
  case round =>
    obtain ⟨k, r, ds, rfl, rfl, r0, r1, hl, hown, hd, hv, hbl, hk⟩ := hrel
    by_cases hk0 : 0 < k
    · obtain ⟨m, rfl⟩ : ∃ m, k = m + 1 := ⟨k - 1, by omega⟩
      obtain ⟨d, q1⟩ : ∃ d, d = xs[m]?.getD 0 := ⟨_, rfl⟩
      have b1 := dig_at DA.out m
      rw [← q1] at b1
      obtain ⟨b, off, rfl, h3⟩ := HA.out m (by omega)
      rw [← q1] at h3
      have h5 := hbl.cell h3
      have hcell := hown.cell m (by omega)
      have hfree := hown.free m
      have HX := Lib.hid (And.intro hl (And.intro hown (And.intro hd (And.intro hv hbl))))
      have Q1 := Lib.hid q1
      clear q1 h3 hbl hl hown hd hv
      rw [show ((m + 1 : Nat) : Int) - 1 = (m : Int) by omega]
      have z0 : (0 : Int) ≤ (m : Int) := by omega
      have z1 : (m : Int) < (xs.length : Int) := by omega
      have q0 : 0 ≤ (r * 1000000000 + d) / n := Int.ediv_nonneg (by omega) (by omega)
      have qlt : (r * 1000000000 + d) / n < 1000000000 := Int.ediv_lt_of_lt_mul (by omega) (by
        have := Int.mul_le_mul_of_nonneg_right (show r ≤ n - 1 by omega) (show (0 : Int) ≤ 1000000000 by omega)
        omega)
      have m0 : 0 ≤ (r * 1000000000 + d) % n := Int.emod_nonneg _ (by omega)
      have m1 : (r * 1000000000 + d) % n < n := Int.emod_lt_of_pos _ (by omega)
      go_wp2_with fail
      refine ⟨⟨m, (r * 1000000000 + d) % n, ds.set m ((r * 1000000000 + d) / n), by go_num, rfl, m0, m1, by simp [HX.out.1], HX.out.2.1.set _ _, dig_set HX.out.2.2.1 _ _ q0 qlt, ?_, HX.out.2.1.bl HX.out.2.2.2.2 _ _, by omega⟩, by simp [intOf]⟩
      have hv := HX.out.2.2.2.1
      have hl := HX.out.1
      rw [drop_cons' xs m (by omega), drop_cons' _ m (by simp; omega), List.getElem?_set_self (by omega), Option.getD_some, List.drop_set_of_lt (by omega), ← Q1.out]
      simp only [val]
      rw [← hv]
      have e := Int.mul_ediv_add_emod (r * 1000000000 + d) n
      generalize (r * 1000000000 + d) / n = q at *
      generalize (r * 1000000000 + d) % n = p at *
      generalize val (ds.drop (m + 1)) = t at *
      have e2 : (q + 1000000000 * t) * n = n * q + 1000000000 * (t * n) := by grind
      omega
    · obtain rfl : k = 0 := by omega
      simp only [List.drop_zero] at hv
      have hq : Hid (val ds = val xs / n ∧ r = val xs % n) := by
        show _ ∧ _
        have e : val xs = r + n * val ds := by rw [← hv]; grind
        rw [e, Int.add_mul_ediv_left _ _ (by omega), Int.add_mul_emod_self_left, Int.ediv_eq_zero_of_lt r0 r1, Int.emod_eq_of_lt r0 r1]
        exact ⟨by omega, rfl⟩
      have HT := Lib.hid (trim_any _ ds wr hown.slc)
      rw [hl] at HT
      have HD := Lib.hid hd
      clear hl hown hd hv
      go_wp2_with fail
      refine HT.out.mono ?_
      rintro e w1 ⟨v', k', rfl, hk', hs, hw⟩
      go_wp2_with fail
      go_returns
      obtain ⟨h1, h2⟩ := nat_cut HD.out hq.out.1 hk' hs hbl hw
      exact ⟨_, ret_t hq.out.2, h1, h2⟩
end Go.Proofs.Ytdienaigmkaheaa
