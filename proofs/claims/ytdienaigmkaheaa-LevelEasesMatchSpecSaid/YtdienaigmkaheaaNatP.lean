/- The reference's numbers of digits: take, give. -/
import Derived.Test.YtdienaigmkaheaaNatG
namespace Go.Proofs.Ytdienaigmkaheaa
open Go.RowKit

theorem on_trans {a b c : World} {r : Option Nat} (h : a.grownBy b r) (k : b.grownBy c r) : a.grownBy c r :=
  ⟨k.os.trans h.os, k.tape.trans h.tape, k.output.trans h.output, Nat.le_trans h.size k.size, fun i hi hne => (k.block i (Nat.lt_of_lt_of_le hi h.size) hne).trans (h.block i hi hne)⟩
theorem Own.on {W wr : World} {g cap : Nat} {ds : List Int} (h : Own W wr g cap ds) (j : Nat) (n : Int) : wr.grownBy (wr.setCell ⟨g, j, none⟩ (.int .i64 n)) (some g) := (World.ownsRow.stored h j (.int .i64 n)).2
theorem on_cell {a b : World} {g : Nat} (h : a.grownBy b (some g)) {p : Addr} {v : Value} (hc : a.cell? p = some v) (hne : p.block ≠ g) : b.cell? p = some v :=
  World.grownBy.cell h hc (by simpa using hne)

def TkRel (W w : World) (g X L j n : Nat) (q : Int) (ds0 ys : List Int) (v9 v10 : Value) (wr : World) : Prop := ∃ (k : Nat) (c : Int) (ds : List Int), v10 = .int .i64 k ∧ v9 = .int .i64 c ∧ 0 ≤ c ∧ c < 1000000000 ∧ k ≤ n + 1 ∧
  ds.length = L ∧ Own W wr g X ds ∧ Dig ds ∧ val ds = val ds0 - pw j * (q * val (ys.take k)) + pw (j + k) * c ∧ (∀ i, i < j ∨ j + k ≤ i → ds[i]?.getD 0 = ds0[i]?.getD 0) ∧ w.grownBy wr (some g)
def PTake (W w : World) (g X L j n : Nat) (q : Int) (ds0 ys : List Int) (e : Ending) (w' : World) : Prop := ∃ (c : Int) (ds : List Int), e = .returned (.bool (decide (0 < c))) ∧ 0 ≤ c ∧ 
  ds.length = L ∧ Own W w' g X ds ∧ Dig ds ∧ val ds = val ds0 - pw j * (q * val ys) + pw (j + n + 1) * c ∧ (∀ i, i < j ∨ j + n + 1 ≤ i → ds[i]?.getD 0 = ds0[i]?.getD 0) ∧ w.grownBy w' (some g)

theorem take_step {W w wr w1 : World} {g X L j n k : Nat} {q c d c' : Int} {ds0 ds ys : List Int}
    (HX : ds.length = L ∧ Own W wr g X ds ∧ Dig ds ∧ val ds = val ds0 - pw j * (q * val (ys.take k)) + pw (j + k) * c ∧ (∀ i, i < j ∨ j + k ≤ i → ds[i]?.getD 0 = ds0[i]?.getD 0) ∧ w.grownBy wr (some g))
    (hd : d - 1000000000 * c' = ds[j + k]?.getD 0 - c - q * ys[k]?.getD 0) (d0 : 0 ≤ d) (d1 : d < 1000000000) (c0 : 0 ≤ c') (c1 : c' < 1000000000) (hL : j + k < L) (hk : k ≤ n)
    (hown : Own W w1 g X (ds.set (j + k) d)) (hon : w.grownBy w1 (some g)) :
    TkRel W w g X L j n q ds0 ys (.int .i64 c') (.int .i64 ((k : Int) + 1)) w1 := by
  obtain ⟨hl, _, hdg, hv, hz, _⟩ := HX
  refine ⟨k + 1, c', ds.set (j + k) d, by go_num, rfl, c0, c1, by omega, by simp [hl], hown, dig_set hdg _ _ d0 d1, ?_, fun i hi => ?_, hon⟩
  · rw [val_set ds (j + k) _ (by omega), ← Nat.add_assoc, pw_succ, val_take_next ys k, hv]
    have e4 : pw j * (q * (val (ys.take k) + pw k * ys[k]?.getD 0)) = pw j * (q * val (ys.take k)) + pw (j + k) * (q * ys[k]?.getD 0) := by rw [pw_add]; grind
    have e5 : pw (j + k) * (d - 1000000000 * c') = pw (j + k) * (ds[j + k]?.getD 0) - pw (j + k) * c - pw (j + k) * (q * ys[k]?.getD 0) := by rw [hd]; grind
    have e6 : pw (j + k) * (d - 1000000000 * c') = pw (j + k) * d - 1000000000 * pw (j + k) * c' := by grind
    have e7 : pw (j + k) * (d - ds[j + k]?.getD 0) = pw (j + k) * d - pw (j + k) * (ds[j + k]?.getD 0) := by grind
    omega
  · rw [List.getElem?_set_ne (by omega)]
    exact hz i (by omega)

set_option maxRecDepth 100000 in
set_option maxHeartbeats 3200000 in
theorem take_any (W : World) (g X L bY oY cY j : Nat) (q : Int) (ds0 ys : List Int) (w : World) (hL : ds0.length = L) (hL2 : L ≤ 1000000) (hown : Own W w g X ds0) (hd0 : Dig ds0) (hy : Dig ys) (hn : j + ys.length < L) (q0 : 0 ≤ q) (q1 : q < 1000000000)
    (hne : bY ≠ g) (hc : ∀ i, i < ys.length → w.cell? ⟨bY, oY + i, none⟩ = some (.int .i64 (ys[i]?.getD 0))) :
    Calls Try.prog 76 #[.slice (some ⟨g, 0, none⟩) L X, .slice (some ⟨bY, oY, none⟩) ys.length cY, .int .i64 j, .int .i64 q] w (PTake W w g X L j ys.length q ds0 ys) := by
  have HC := Lib.hid hc
  have HY := Lib.hid hy
  have H0 := Lib.hid (And.intro hL (And.intro hown hd0))
  clear hc hy hL hown hd0
  go_enter Try.func76, Try.ntmps76
  go_wp2_with fail
  go_loopw [9, 10] (fun v9 v10 wr => TkRel W w g X L j ys.length q ds0 ys v9 v10 wr) (fun _ v10 _ => ys.length + 1 - (intOf v10).toNat)
  case atStart => exact ⟨0, 0, ds0, rfl, rfl, by omega, by omega, by omega, H0.out.1, H0.out.2.1, H0.out.2.2, by simp [val], fun _ _ => rfl, World.grownBy.refl _ _⟩
  case round =>
    obtain ⟨k, c, ds, rfl, rfl, c0, c1, hk, hl, hown, hd, hv, hz, hon⟩ := hrel
    have HX := Lib.hid (And.intro hl (And.intro hown (And.intro hd (And.intro hv (And.intro hz hon)))))
    obtain ⟨p, hp⟩ : ∃ p, p = ds[j + k]?.getD 0 := ⟨_, rfl⟩
    have bp := dig_at hd (j + k)
    rw [← hp] at bp
    have hcell : k ≤ ys.length → wr.cell? ⟨g, k + j, none⟩ = some (.int .i64 p) := fun h => by
      have := hown.cell (j + k) (by omega)
      rw [← hp, Nat.add_comm j k] at this
      exact this
    have hfree := hown.free (k + j)
    have P1 := Lib.hid hp
    clear hl hd hv hz hp
    have hset : Hid (∀ d, Own W (wr.setCell ⟨g, k + j, none⟩ (.int .i64 d)) g X (ds.set (j + k) d)) := fun d => by rw [Nat.add_comm k j]; exact hown.set _ _
    have hset2 : Hid (∀ d, w.grownBy (wr.setCell ⟨g, k + j, none⟩ (.int .i64 d)) (some g)) := fun d => on_trans hon (hown.on _ _)
    clear hown
    by_cases h1 : k < ys.length
    · obtain ⟨y, q2⟩ : ∃ d, d = ys[k]?.getD 0 := ⟨_, rfl⟩
      have h3 := HC.out k h1
      rw [← q2] at h3
      have h4 := on_cell hon h3 hne
      have by' := HY.out k h1
      rw [← q2] at by'
      have hqy := prod_bd q0 q1 by'.1 by'.2
      have Q2 := Lib.hid q2
      have hcell' := hcell (by omega)
      clear q2 h3 hcell hon
      have z0 : (0 : Int) ≤ (k : Int) + (j : Int) := by omega
      have z1 : (k : Int) + (j : Int) < (L : Int) := by omega
      by_cases hneg : p - c - q * y < 0
      · go_wp2_with fail
        exact ⟨take_step (d := p - c - q * y + (-(p - c - q * y) + 1000000000 - 1) / 1000000000 * 1000000000) (c' := (-(p - c - q * y) + 1000000000 - 1) / 1000000000) HX.out (by rw [← P1.out, ← Q2.out]; omega) (by omega) (by omega) (by omega) (by omega) (by omega) (by omega) (hset.out _) (hset2.out _), by simp [intOf]; omega⟩
      · go_wp2_with fail
        exact ⟨take_step (d := p - c - q * y) (c' := 0) HX.out (by rw [← P1.out, ← Q2.out]; omega) (by omega) (by omega) (by omega) (by omega) (by omega) (by omega) (hset.out _) (hset2.out _), by simp [intOf]; omega⟩
    · by_cases h2 : k = ys.length
      · have hcell' := hcell (by omega)
        have Y0 := Lib.hid (getD_of_le ys k (by omega))
        have hk1 : k ≤ ys.length := by omega
        have hk2 : ys.length ≤ k := by omega
        clear hcell hon h2
        have z0 : (0 : Int) ≤ (k : Int) + (j : Int) := by omega
        have z1 : (k : Int) + (j : Int) < (L : Int) := by omega
        by_cases hneg : p - c < 0
        · go_wp2_with fail
          exact ⟨take_step (d := p - c + (-(p - c) + 1000000000 - 1) / 1000000000 * 1000000000) (c' := (-(p - c) + 1000000000 - 1) / 1000000000) HX.out (by rw [← P1.out, Y0.out]; omega) (by omega) (by omega) (by omega) (by omega) (by omega) (by omega) (hset.out _) (hset2.out _), by simp [intOf]; omega⟩
        · go_wp2_with fail
          exact ⟨take_step (d := p - c) (c' := 0) HX.out (by rw [← P1.out, Y0.out]; omega) (by omega) (by omega) (by omega) (by omega) (by omega) (by omega) (hset.out _) (hset2.out _), by simp [intOf]; omega⟩
      · have hk2 : ys.length < k := by omega
        clear hcell hon h2
        have hkk : Hid (k = ys.length + 1) := by show k = _; omega
        go_wp2_with fail
        go_returns
        obtain ⟨hl, hown, hd, hv, hz, hon⟩ := HX.out
        refine ⟨c, ds, rfl, c0, hl, hown, hd, ?_, fun i hi => hz i (by have := hkk.out; omega), hon⟩
        rw [hv, hkk.out, List.take_of_length_le (by omega), Nat.add_assoc]

def GvRel (W w : World) (g X L j n : Nat) (ds0 ys : List Int) (v6 v7 : Value) (wr : World) : Prop := ∃ (k : Nat) (c : Int) (ds : List Int), v7 = .int .i64 k ∧ v6 = .int .i64 c ∧ 0 ≤ c ∧ c ≤ 1 ∧ k ≤ n + 1 ∧
  ds.length = L ∧ Own W wr g X ds ∧ Dig ds ∧ val ds = val ds0 + pw j * val (ys.take k) - pw (j + k) * c ∧ (∀ i, i < j ∨ j + k ≤ i → ds[i]?.getD 0 = ds0[i]?.getD 0) ∧ w.grownBy wr (some g)
def PGive (W w : World) (g X L j n : Nat) (ds0 ys : List Int) (e : Ending) (w' : World) : Prop := ∃ (c : Int) (ds : List Int), (∃ v, e = .returned v) ∧ 0 ≤ c ∧ c ≤ 1 ∧
  ds.length = L ∧ Own W w' g X ds ∧ Dig ds ∧ val ds = val ds0 + pw j * val ys - pw (j + n + 1) * c ∧ (∀ i, i < j ∨ j + n + 1 ≤ i → ds[i]?.getD 0 = ds0[i]?.getD 0) ∧ w.grownBy w' (some g)

theorem give_step {W w wr w1 : World} {g X L j n k : Nat} {c s : Int} {ds0 ds ys : List Int}
    (HX : ds.length = L ∧ Own W wr g X ds ∧ Dig ds ∧ val ds = val ds0 + pw j * val (ys.take k) - pw (j + k) * c ∧ (∀ i, i < j ∨ j + k ≤ i → ds[i]?.getD 0 = ds0[i]?.getD 0) ∧ w.grownBy wr (some g))
    (hs : s = ds[j + k]?.getD 0 + c + ys[k]?.getD 0) (s0 : 0 ≤ s) (s1 : s < 2000000000) (hL : j + k < L) (hk : k ≤ n)
    (hown : Own W w1 g X (ds.set (j + k) (s % 1000000000))) (hon : w.grownBy w1 (some g)) :
    GvRel W w g X L j n ds0 ys (.int .i64 (s / 1000000000)) (.int .i64 ((k : Int) + 1)) w1 := by
  obtain ⟨hl, _, hdg, hv, hz, _⟩ := HX
  refine ⟨k + 1, s / 1000000000, ds.set (j + k) (s % 1000000000), by go_num, rfl, by omega, by omega, by omega, by simp [hl], hown, dig_set hdg _ _ (by omega) (by omega), ?_, fun i hi => ?_, hon⟩
  · rw [val_set ds (j + k) _ (by omega), ← Nat.add_assoc, pw_succ, val_take_next ys k, hv]
    have e3 : s = 1000000000 * (s / 1000000000) + s % 1000000000 := by omega
    generalize s / 1000000000 = q at *
    generalize s % 1000000000 = r at *
    have e4 : pw j * (val (ys.take k) + pw k * ys[k]?.getD 0) = pw j * val (ys.take k) + pw (j + k) * ys[k]?.getD 0 := by rw [pw_add]; grind
    have e5 : pw (j + k) * s = pw (j + k) * (ds[j + k]?.getD 0) + pw (j + k) * c + pw (j + k) * ys[k]?.getD 0 := by rw [hs]; grind
    have e6 : pw (j + k) * s = 1000000000 * pw (j + k) * q + pw (j + k) * r := by rw [e3]; grind
    have e7 : pw (j + k) * (r - ds[j + k]?.getD 0) = pw (j + k) * r - pw (j + k) * (ds[j + k]?.getD 0) := by grind
    omega
  · rw [List.getElem?_set_ne (by omega)]
    exact hz i (by omega)

set_option maxRecDepth 100000 in
set_option maxHeartbeats 3200000 in
theorem give_any (W : World) (g X L bY oY cY j : Nat) (ds0 ys : List Int) (w : World) (hL : ds0.length = L) (hL2 : L ≤ 1000000) (hown : Own W w g X ds0) (hd0 : Dig ds0) (hy : Dig ys) (hn : j + ys.length < L)
    (hne : bY ≠ g) (hc : ∀ i, i < ys.length → w.cell? ⟨bY, oY + i, none⟩ = some (.int .i64 (ys[i]?.getD 0))) :
    Calls Try.prog 77 #[.slice (some ⟨g, 0, none⟩) L X, .slice (some ⟨bY, oY, none⟩) ys.length cY, .int .i64 j] w (PGive W w g X L j ys.length ds0 ys) := by
  have HC := Lib.hid hc
  have HY := Lib.hid hy
  have H0 := Lib.hid (And.intro hL (And.intro hown hd0))
  clear hc hy hL hown hd0
  go_enter Try.func77, Try.ntmps77
  go_wp2_with fail
  go_loopw [6, 7] (fun v6 v7 wr => GvRel W w g X L j ys.length ds0 ys v6 v7 wr) (fun _ v7 _ => ys.length + 1 - (intOf v7).toNat)
  case atStart => exact ⟨0, 0, ds0, rfl, rfl, by omega, by omega, by omega, H0.out.1, H0.out.2.1, H0.out.2.2, by simp [val], fun _ _ => rfl, World.grownBy.refl _ _⟩
  case round =>
    obtain ⟨k, c, ds, rfl, rfl, c0, c1, hk, hl, hown, hd, hv, hz, hon⟩ := hrel
    have HX := Lib.hid (And.intro hl (And.intro hown (And.intro hd (And.intro hv (And.intro hz hon)))))
    obtain ⟨p, hp⟩ : ∃ p, p = ds[j + k]?.getD 0 := ⟨_, rfl⟩
    have bp := dig_at hd (j + k)
    rw [← hp] at bp
    have hcell : k ≤ ys.length → wr.cell? ⟨g, k + j, none⟩ = some (.int .i64 p) := fun h => by
      have := hown.cell (j + k) (by omega)
      rw [← hp, Nat.add_comm j k] at this
      exact this
    have hfree := hown.free (k + j)
    have P1 := Lib.hid hp
    clear hl hd hv hz hp
    have hset : Hid (∀ d, Own W (wr.setCell ⟨g, k + j, none⟩ (.int .i64 d)) g X (ds.set (j + k) d)) := fun d => by rw [Nat.add_comm k j]; exact hown.set _ _
    have hset2 : Hid (∀ d, w.grownBy (wr.setCell ⟨g, k + j, none⟩ (.int .i64 d)) (some g)) := fun d => on_trans hon (hown.on _ _)
    clear hown
    by_cases h1 : k < ys.length
    · obtain ⟨y, q2⟩ : ∃ d, d = ys[k]?.getD 0 := ⟨_, rfl⟩
      have h3 := HC.out k h1
      rw [← q2] at h3
      have h4 := on_cell hon h3 hne
      have by' := HY.out k h1
      rw [← q2] at by'
      have Q2 := Lib.hid q2
      have hcell' := hcell (by omega)
      clear q2 h3 hcell hon
      have z0 : (0 : Int) ≤ (k : Int) + (j : Int) := by omega
      have z1 : (k : Int) + (j : Int) < (L : Int) := by omega
      go_wp2_with fail
      exact ⟨give_step (s := p + c + y) HX.out (by rw [← P1.out, ← Q2.out]) (by omega) (by omega) (by omega) (by omega) (hset.out _) (hset2.out _), by simp [intOf]; omega⟩
    · by_cases h2 : k = ys.length
      · have hcell' := hcell (by omega)
        have Y0 := Lib.hid (getD_of_le ys k (by omega))
        have hk1 : k ≤ ys.length := by omega
        have hk2 : ys.length ≤ k := by omega
        clear hcell hon h2
        have z0 : (0 : Int) ≤ (k : Int) + (j : Int) := by omega
        have z1 : (k : Int) + (j : Int) < (L : Int) := by omega
        go_wp2_with fail
        exact ⟨give_step (s := p + c) HX.out (by rw [← P1.out, Y0.out, Int.add_zero]) (by omega) (by omega) (by omega) (by omega) (hset.out _) (hset2.out _), by simp [intOf]; omega⟩
      · have hk2 : ys.length < k := by omega
        clear hcell hon h2
        have hkk : Hid (k = ys.length + 1) := by show k = _; omega
        go_wp2_with fail
        go_end0
        obtain ⟨hl, hown, hd, hv, hz, hon⟩ := HX.out
        refine ⟨c, ds, ⟨_, rfl⟩, c0, c1, hl, hown, hd, ?_, fun i hi => hz i (by have := hkk.out; omega), hon⟩
        rw [hv, hkk.out, List.take_of_length_le (by omega), Nat.add_assoc]
end Go.Proofs.Ytdienaigmkaheaa
