/- The reference's numbers of digits: what its functions do. -/
import Derived.Test.YtdienaigmkaheaaBl
import Derived.Test.YtdienaigmkaheaaNat
import Derived.Test.YtdienaigmkaheaaRows
import Derived.BigQuiet
import Derived.LoopTactic
namespace Go.Proofs.Ytdienaigmkaheaa
open Go.RowKit

theorem ret_i {k : IntKind} {a b : Int} (h : a = b) : Ending.returned (.int k a) = .returned (.int k b) := by rw [h]
theorem ret_val {a b : Value} (h : a = b) : Ending.returned a = .returned b := by rw [h]

def PTrim (b off cap : Nat) (xs : List Int) (w : World) (e : Ending) (w' : World) : Prop := ∃ k, e = .returned (.slice (some ⟨b, off, none⟩) k cap) ∧ Cut xs k ∧ w = w'

set_option maxHeartbeats 400000 in
theorem trim_some (b off cap : Nat) (xs : List Int) (w : World) (h0 : 0 < xs.length) (hcap : xs.length ≤ cap) (hm : cap ≤ 9223372036854775807) (hc : ∀ i, i < xs.length → w.cell? ⟨b, off + i, none⟩ = some (.int .i64 (xs[i]?.getD 0))) :
    Calls Try.prog 71 #[.slice (some ⟨b, off, none⟩) xs.length cap] w (PTrim b off cap xs w) := by
  have HC := Lib.hid hc
  clear hc
  go_enter Try.func71, Try.ntmps71
  go_wp2
  go_loop [3] (fun v3 => ∃ k : Nat, k ≤ xs.length ∧ v3 = .int .i64 k ∧ ∀ i, k ≤ i → i < xs.length → xs[i]?.getD 0 = 0) (fun v3 => (intOf v3).toNat)
  case atStart => exact ⟨xs.length, Nat.le_refl _, rfl, fun i h1 h2 => by omega⟩
  case round =>
    obtain ⟨k, hk, rfl, hz⟩ := hrel
    have HZ := Lib.hid hz
    clear hz
    by_cases hk0 : 0 < k
    · obtain ⟨m, rfl⟩ : ∃ m, k = m + 1 := ⟨k - 1, by omega⟩
      have hcell := HC.out m (by omega)
      obtain ⟨d, hd⟩ : ∃ d, d = xs[m]?.getD 0 := ⟨_, rfl⟩
      rw [← hd] at hcell
      have HD := Lib.hid hd
      clear hd
      by_cases hd0 : d = 0
      · have hb : (d == 0) = true := by simpa using hd0
        have HD0 := Lib.hid hd0
        clear hd0
        go_wp2
        go_round
        case rel => exact ⟨m, by omega, by go_num, fun i h1 h2 => by
          by_cases h : i = m
          · rw [h, ← HD.out, HD0.out]
          · exact HZ.out i (by omega) h2⟩
        case measure => simp [intOf]
      · have hb : (d == 0) = false := by simpa using hd0
        go_wp2
        go_returns
        exact ⟨m + 1, ret_val (by simp), ⟨hk, HZ.out, Or.inr (by rw [Nat.add_sub_cancel, ← HD.out]; exact hd0)⟩, rfl⟩
    · obtain rfl : k = 0 := by omega
      go_wp2
      go_returns
      exact ⟨0, ret_val (by simp), ⟨hk, HZ.out, Or.inl rfl⟩, rfl⟩

set_option maxHeartbeats 400000 in
theorem trim_nil (o : Option Addr) (cap : Nat) (w : World) :
    Calls Try.prog 71 #[.slice o 0 cap] w fun e w' => e = .returned (.slice o 0 cap) ∧ w = w' := by
  cases o with
  | none =>
    go_enter Try.func71, Try.ntmps71
    go_wp2
    refine wp_loop_rounds 1 ?_
    rw [rounds_succ]
    go_wp2
    go_returns
    exact ⟨rfl, rfl⟩
  | some a =>
    go_enter Try.func71, Try.ntmps71
    go_wp2
    refine wp_loop_rounds 1 ?_
    rw [rounds_succ]
    go_wp2
    go_returns
    exact ⟨ret_val (by simp), rfl⟩

def PCut (xs : List Int) (w : World) (e : Ending) (w' : World) : Prop := ∃ v k, e = .returned v ∧ Cut xs k ∧ Slc w v (xs.take k) ∧ w = w'
theorem trim_any (v : Value) (xs : List Int) (w : World) (h : Slc w v xs) : Calls Try.prog 71 #[v] w (PCut xs w) := by
  rcases h.open with ⟨rfl, o, cap, rfl, hc⟩ | ⟨b, off, cap, rfl, h0, h1, h2, h3⟩
  · exact (trim_nil o cap w).mono fun _ _ ⟨he, hw⟩ => ⟨_, 0, he, ⟨Nat.zero_le _, fun i _ hi => absurd hi (Nat.not_lt_zero _), Or.inl rfl⟩, by simpa using slc_nil w o cap hc, hw⟩
  · exact (trim_some b off cap xs w h0 h1 h2 h3).mono fun _ _ ⟨k, he, hk, hw⟩ => ⟨_, k, he, hk, Slc.take hk.1 h1 h2 h3, hw⟩

/-- v is the number N. -/
def NatAt (w : World) (v : Value) (N : Int) : Prop := ∃ xs, Slc w v xs ∧ Dig xs ∧ Trm xs ∧ val xs = N
theorem NatAt.bl {w w' : World} {v : Value} {N : Int} (h : NatAt w v N) (g : Bl w w') : NatAt w' v N := by
  obtain ⟨xs, h1, h2⟩ := h; exact ⟨xs, h1.bl g, h2⟩
def PNat (N : Int) (w : World) (e : Ending) (w' : World) : Prop := ∃ v, e = .returned v ∧ NatAt w' v N ∧ Bl w w'

/-- Where 'plus' stands. -/
def PlusRel (w : World) (xs ys : List Int) (v5 v6 v7 : Value) (wr : World) : Prop := ∃ (k : Nat) (c : Int) (ds : List Int), v7 = .int .i64 k ∧ v6 = .int .i64 c ∧ 0 ≤ c ∧ c ≤ 1 ∧ ds.length = k ∧
  wr.ownsRow w.heap.size 3 1 v5 k (ds.map (Value.int .i64)) ∧ Dig ds ∧ val ds + pw k * c = val (xs.take k) + val (ys.take k) ∧ Bl w wr ∧ k ≤ max xs.length ys.length + 1 ∧ (k = max xs.length ys.length + 1 → c = 0)

theorem plus_step {w wr w1 : World} {xs ys ds : List Int} {k : Nat} {c n : Int} {v v' : Value} (c0 : 0 ≤ c) (c1 : c ≤ 1)
    (HX : ds.length = k ∧ wr.ownsRow w.heap.size 3 1 v k (ds.map (Value.int .i64)) ∧ Dig ds ∧ val ds + pw k * c = val (xs.take k) + val (ys.take k) ∧ Bl w wr ∧ (k = max xs.length ys.length + 1 → c = 0))
    (dx : Dig xs) (dy : Dig ys) (hn : n = c + xs[k]?.getD 0 + ys[k]?.getD 0) (hlt : k < max xs.length ys.length ∨ k ≤ max xs.length ys.length + 1 ∧ 0 < c)
    (hown : w1.ownsRow w.heap.size 3 1 v' (k + 1) ((ds ++ [n % 1000000000]).map (Value.int .i64))) (hbl : Bl w w1) :
    PlusRel w xs ys v' (.int .i64 (n / 1000000000)) (.int .i64 ((k : Int) + 1)) w1 := by
  obtain ⟨hl, _, hd, hv, _, hkc⟩ := HX
  have b1 := dig_at dx k
  have b2 := dig_at dy k
  have e1 := val_take_next xs k
  have e2 := val_take_next ys k
  refine ⟨k + 1, n / 1000000000, ds ++ [n % 1000000000], by go_num, rfl, by omega, by omega, by simp [hl], hown, dig_snoc hd (by omega) (by omega), ?_, hbl, ?_, ?_⟩
  · rw [val_snoc, hl, e1, e2, pw_succ]
    have e3 : n = 1000000000 * (n / 1000000000) + n % 1000000000 := by omega
    generalize n / 1000000000 = q at *
    generalize n % 1000000000 = r at *
    have e4 : pw k * n = pw k * c + pw k * (xs[k]?.getD 0) + pw k * (ys[k]?.getD 0) := by rw [hn]; grind
    have e5 : pw k * n = 1000000000 * pw k * q + pw k * r := by rw [e3]; grind
    omega
  · rcases hlt with h | ⟨h, h'⟩
    · omega
    · by_cases he : k = max xs.length ys.length + 1
      · have := hkc he; omega
      · omega
  · intro he
    have z1 := getD_of_le xs k (by omega)
    have z2 := getD_of_le ys k (by omega)
    omega

/-- The digits come to the number, trimmed. -/
theorem nat_cut {w w1 w2 : World} {v : Value} {ds : List Int} {k : Nat} {N : Int} (hd : Dig ds) (hN : val ds = N) (hk : Cut ds k) (hs : Slc w1 v (ds.take k)) (hb : Bl w w1) (he : w1 = w2) : NatAt w2 v N ∧ Bl w w2 := by
  subst he
  exact ⟨⟨_, hs, dig_take _ hd, cut_trm hk, (cut_val hk).trans hN⟩, hb⟩

set_option maxRecDepth 100000 in
set_option maxHeartbeats 1600000 in
theorem plus_digits (va vb : Value) (xs ys : List Int) (w : World) (ha : Slc w va xs) (hb : Slc w vb ys) (da : Dig xs) (db : Dig ys) (la : xs.length ≤ 1000000) (lb : ys.length ≤ 1000000) :
    Calls Try.prog 59 #[va, vb] w (PNat (val xs + val ys) w) := by
  obtain ⟨oa, ca, rfl, _, hA⟩ := ha
  obtain ⟨ob, cb, rfl, _, hB⟩ := hb
  have HA := Lib.hid hA
  have HB := Lib.hid hB
  have DA := Lib.hid da
  have DB := Lib.hid db
  clear hA hB da db
  go_enter Try.func59, Try.ntmps59
  go_wp2
  go_loopw [5, 6, 7] (fun v5 v6 v7 wr => PlusRel w xs ys v5 v6 v7 wr) (fun _ _ v7 _ => max xs.length ys.length + 1 - (intOf v7).toNat)
  case atStart => exact ⟨0, 0, [], rfl, rfl, by omega, by omega, rfl, World.ownsRow_nil _ _ _ _, dig_nil, by simp [val], Bl.refl _, by omega, fun _ => rfl⟩
  case round =>
    obtain ⟨k, c, ds, rfl, rfl, c0, c1, hl, hown, hd, hv, hbl, hk, hkc⟩ := hrel
    have HX := Lib.hid (And.intro hl (And.intro hown (And.intro hd (And.intro hv (And.intro hbl hkc)))))
    clear hl hown hd hv hkc
    obtain ⟨d1, q1⟩ : ∃ d, d = xs[k]?.getD 0 := ⟨_, rfl⟩
    obtain ⟨d2, q2⟩ : ∃ d, d = ys[k]?.getD 0 := ⟨_, rfl⟩
    have b1 := dig_at DA.out k
    have b2 := dig_at DB.out k
    rw [← q1] at b1
    rw [← q2] at b2
    have Q1 := Lib.hid q1
    have Q2 := Lib.hid q2
    clear q1 q2
    by_cases h1 : k < xs.length
    · obtain ⟨b, off, rfl, h3⟩ := HA.out k h1
      rw [← Q1.out] at h3
      have h5 := hbl.cell h3
      clear h3
      by_cases h2 : k < ys.length
      · obtain ⟨b', off', rfl, h4⟩ := HB.out k h2
        rw [← Q2.out] at h4
        have h6 := hbl.cell h4
        clear hbl h4
        go_wp2_with (at_builtin; refine app_int Try.underlying47 info_i rfl _ _ rfl w wr _ k ds ((c + d1 + d2) % 1000000000) HX.out.2.1 rfl rfl (by omega) HX.out.2.2.2.2.1 ?_; intro v' w1 hown' hbl')
        exact ⟨plus_step (n := c + d1 + d2) c0 c1 HX.out DA.out DB.out (by rw [Q1.out, Q2.out]) (Or.inl (by omega)) hown' hbl', by simp [intOf]; omega⟩
      · clear hbl
        have Z2 := Lib.hid (getD_of_le ys k (by omega))
        go_wp2_with (at_builtin; refine app_int Try.underlying47 info_i rfl _ _ rfl w wr _ k ds ((c + d1) % 1000000000) HX.out.2.1 rfl rfl (by omega) HX.out.2.2.2.2.1 ?_; intro v' w1 hown' hbl')
        exact ⟨plus_step (n := c + d1) c0 c1 HX.out DA.out DB.out (by rw [Q1.out, Z2.out, Int.add_zero]) (Or.inl (by omega)) hown' hbl', by simp [intOf]; omega⟩
    · have Z1 := Lib.hid (getD_of_le xs k (by omega))
      by_cases h2 : k < ys.length
      · obtain ⟨b', off', rfl, h4⟩ := HB.out k h2
        rw [← Q2.out] at h4
        have h6 := hbl.cell h4
        clear hbl h4
        go_wp2_with (at_builtin; refine app_int Try.underlying47 info_i rfl _ _ rfl w wr _ k ds ((c + d2) % 1000000000) HX.out.2.1 rfl rfl (by omega) HX.out.2.2.2.2.1 ?_; intro v' w1 hown' hbl')
        exact ⟨plus_step (n := c + d2) c0 c1 HX.out DA.out DB.out (by rw [Q2.out, Z1.out, Int.add_zero]) (Or.inl (by omega)) hown' hbl', by simp [intOf]; omega⟩
      · clear hbl
        have Z2 := Lib.hid (getD_of_le ys k (by omega))
        by_cases hc : 0 < c
        · go_wp2_with (at_builtin; refine app_int Try.underlying47 info_i rfl _ _ rfl w wr _ k ds (c % 1000000000) HX.out.2.1 rfl rfl (by omega) HX.out.2.2.2.2.1 ?_; intro v' w1 hown' hbl')
          have hkm : k ≤ max xs.length ys.length := by
            by_cases he : k = max xs.length ys.length + 1
            · have := HX.out.2.2.2.2.2 he; omega
            · omega
          exact ⟨plus_step (n := c) c0 c1 HX.out DA.out DB.out (by rw [Z1.out, Z2.out, Int.add_zero, Int.add_zero]) (Or.inr ⟨hk, hc⟩) hown' hbl', by simp [intOf]; omega⟩
        · obtain ⟨hl, hown, hd, hv, hbl, hkc⟩ := HX.out
          have HT := Lib.hid (trim_any _ ds wr (slc_own hown))
          have hsum : Hid (val ds = val xs + val ys) := by
            show val ds = val xs + val ys
            have := hv
            rw [List.take_of_length_le (by omega), List.take_of_length_le (by omega), show c = 0 by omega, Int.mul_zero, Int.add_zero] at this
            exact this
          have HD := Lib.hid hd
          clear hl hown hd hv hkc
          go_wp2_with fail
          refine HT.out.mono ?_
          rintro e w1 ⟨v', k', rfl, hk', hs, hw⟩
          go_wp2_with fail
          go_returns
          exact ⟨_, rfl, nat_cut HD.out hsum.out hk' hs hbl hw⟩
end Go.Proofs.Ytdienaigmkaheaa
