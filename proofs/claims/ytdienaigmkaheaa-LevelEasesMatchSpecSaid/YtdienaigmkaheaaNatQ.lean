/- The reference's numbers of digits: what 'divide' does. -/
import Derived.Test.YtdienaigmkaheaaNatV
import Derived.Deep.AppendLies
import Derived.Deep.Onto
namespace Go.Proofs.Ytdienaigmkaheaa
open Go.RowKit

theorem ownsRow_bl {w w' : World} {base : Nat} {e : TypeId} {v : Value} {n : Nat} {xs : List Value} (h : w.ownsRow base e 1 v n xs) (g : Bl w w') : w'.ownsRow base e 1 v n xs :=
  h.kept (row := none) ⟨g.os, g.tape, g.output, g.size, fun k hk _ => g.block k hk⟩ (by cases hv : v.ownBlock <;> simp)
theorem Own.later {W w w' : World} {g c : Nat} {ds : List Int} (h : Own W w g c ds) (k : Bl w w') : Own W w' g c ds := ownsRow_bl h k
theorem Own.other {W w w' : World} {g c g' : Nat} {ds : List Int} (h : Own W w g c ds) (k : w.grownBy w' (some g')) (hne : g ≠ g') : Own W w' g c ds := World.ownsRow.kept h k (by simp [Value.ownBlock, hne])
theorem own_of {W w : World} {v : Value} {ds : List Int} (h : w.ownsRow W.heap.size 3 1 v ds.length (ds.map (Value.int .i64))) (h0 : 0 < ds.length) : ∃ g c, v = .slice (some ⟨g, 0, none⟩) ds.length c ∧ Own W w g c ds := by
  obtain ⟨g, c, rfl, _, _⟩ := World.ownsRow.form h h0
  exact ⟨g, c, rfl, h⟩

def PDiv (A B : Int) (w : World) (e : Ending) (w' : World) : Prop := ∃ v r, e = .returned (.tuple #[v, r]) ∧ NatAt w' v (A / B) ∧ NatAt w' r (A % B) ∧ Bl w w'

def slen : Value → Nat
  | .slice _ n _ => n
  | _ => 0
/-- Where the padding stands. -/
def PadRel (w : World) (gy cy L : Nat) (us : List Int) (X : Int) (v9 : Value) (wr : World) : Prop := ∃ (g c : Nat) (ds : List Int), v9 = .slice (some ⟨g, 0, none⟩) ds.length c ∧ Own w wr g c ds ∧ 0 < ds.length ∧ ds.length ≤ L ∧ Dig ds ∧ val ds = X ∧ g ≠ gy ∧ Own w wr gy cy us ∧ Bl w wr
/-- Where the division stands. -/
def DvRel (w : World) (gx cx gy cy gq M L : Nat) (us : List Int) (X : Int) (v13 : Value) (wr : World) : Prop := ∃ (k : Nat) (ds qs : List Int), v13 = .int .i64 ((k : Int) - 1) ∧ k ≤ M ∧ ds.length = L ∧ qs.length = M ∧ Own w wr gx cx ds ∧ Own w wr gq M qs ∧ Own w wr gy cy us ∧
  Dig ds ∧ Dig qs ∧ val (ds.drop k) < val us ∧ (∀ i, i < k → qs[i]?.getD 0 = 0) ∧ val qs * val us + val ds = X ∧ Bl w wr

theorem digits_top (xs : List Int) (_h : Dig xs) (h0 : 0 < xs.length) : val xs = val (xs.take (xs.length - 1)) + pw (xs.length - 1) * xs[xs.length - 1]?.getD 0 := by
  have := val_drop xs (xs.length - 1) (by omega)
  rw [val_one xs (xs.length - 1) (by omega), List.drop_eq_nil_of_le (by omega)] at this
  rw [this]; simp [val]
/-- The scaled divisor has as many digits, and its highest one is great. -/
theorem norm_len {ys us : List Int} {f : Int} (hy : Dig ys) (ty : Trm ys) (hu : Dig us) (tu : Trm us) (h0 : 0 < ys.length) (hv : val us = val ys * f) (hf : f = 1000000000 / (ys[ys.length - 1]?.getD 0 + 1)) :
    us.length = ys.length ∧ 500000000 ≤ us[us.length - 1]?.getD 0 ∧ 1 ≤ f ∧ f ≤ 500000000 := by
  have ht := dig_at hy (ys.length - 1)
  have hne : ys[ys.length - 1]?.getD 0 ≠ 0 := by
    rcases ty with h | h
    · subst h; simp at h0
    · exact h
  have e := digits_top ys hy h0
  have b := val_bd _ (dig_take (ys.length - 1) hy)
  rw [List.length_take, Nat.min_eq_left (by omega)] at b
  generalize ys[ys.length - 1]?.getD 0 = top at *
  obtain ⟨n1, n2, n3, n4⟩ := norm_top (by omega) ht.2 hf
  have p := pw_pos (ys.length - 1)
  have hlo : pw (ys.length - 1) * (f * top) ≤ val us := by
    rw [hv, e]
    have e2 : (val (ys.take (ys.length - 1)) + pw (ys.length - 1) * top) * f = val (ys.take (ys.length - 1)) * f + pw (ys.length - 1) * (f * top) := by grind
    have := Int.mul_nonneg b.1 (show 0 ≤ f by omega)
    omega
  have hlo2 := Int.mul_le_mul_of_nonneg_left n1 (Int.le_of_lt p)
  have hhi : val us < pw ys.length := by
    have e3 : pw ys.length = 1000000000 * pw (ys.length - 1) := by rw [← pw_succ]; congr 1; omega
    have e4 : val ys ≤ pw (ys.length - 1) * (top + 1) - 1 := by
      rw [e]
      have : pw (ys.length - 1) * (top + 1) = pw (ys.length - 1) * top + pw (ys.length - 1) := by grind
      omega
    have e5 := Int.mul_le_mul_of_nonneg_right e4 (show 0 ≤ f by omega)
    have e6 : (pw (ys.length - 1) * (top + 1) - 1) * f = pw (ys.length - 1) * (f * (top + 1)) - f := by grind
    have e7 := Int.mul_le_mul_of_nonneg_left n2 (Int.le_of_lt p)
    rw [hv]
    omega
  have hlen : us.length = ys.length := by
    have h1 := len_le us hu tu _ hhi
    by_cases h : us.length = ys.length
    · exact h
    · have h2 := (val_bd us hu).2
      have h3 := pw_mono (show us.length ≤ ys.length - 1 by omega)
      omega
  refine ⟨hlen, ?_, n3, n4⟩
  rw [hlen]
  have e8 := digits_top us hu (by omega)
  rw [hlen] at e8
  have b2 := val_bd _ (dig_take (ys.length - 1) hu)
  rw [List.length_take, Nat.min_eq_left (by omega)] at b2
  generalize us[ys.length - 1]?.getD 0 = t at *
  by_cases hc : 500000000 ≤ t
  · exact hc
  · exfalso
    have := Int.mul_le_mul_of_nonneg_left (show t ≤ 499999999 by omega) (Int.le_of_lt p)
    omega
/-- Where the division begins. -/
theorem div_start {xs ys ds us : List Int} {f : Int} (hx : Dig xs) (hy : Dig ys) (ty : Trm ys) (hd : Dig ds) (h0 : 0 < ys.length) (hl : ds.length = xs.length + 1) (hn : us.length = ys.length) (hv : val us = val ys * f) (hX : val ds = val xs * f) (hf : 1 ≤ f) (hle : ys.length ≤ xs.length) :
    val (ds.drop (xs.length + 1 - ys.length)) < val us := by
  have e := val_drop ds (xs.length + 1 - ys.length) (by omega)
  have b := val_bd _ (dig_take (xs.length + 1 - ys.length) hd)
  have bx := val_bd xs hx
  have lo := val_lo ys hy ty (by intro h; subst h; simp at h0)
  have p := pw_pos (xs.length + 1 - ys.length)
  by_cases hc : val (ds.drop (xs.length + 1 - ys.length)) < val us
  · exact hc
  · exfalso
    have e1 := Int.mul_le_mul_of_nonneg_left (show val us ≤ val (ds.drop (xs.length + 1 - ys.length)) by omega) (Int.le_of_lt p)
    have e2 := Int.mul_le_mul_of_nonneg_right lo (show 0 ≤ f by omega)
    have e3 := Int.mul_le_mul_of_nonneg_left e2 (Int.le_of_lt p)
    have e4 : pw (xs.length + 1 - ys.length) * (pw (ys.length - 1) * f) = pw xs.length * f := by
      rw [← Int.mul_assoc, ← pw_add]; congr 2; omega
    have e5 : val xs * f < pw xs.length * f := Int.mul_lt_mul_of_pos_right bx.2 (by omega)
    rw [hv] at e1
    omega
theorem div_fin {ds es qs : List Int} {Y X q : Int} {j : Nat} (hl : es.length = ds.length) (hj : j ≤ ds.length) (hjq : j < qs.length) (hs : ∀ i, i < j → es[i]?.getD 0 = ds[i]?.getD 0)
    (hT : val (es.drop j) = val (ds.drop j) - q * Y) (hv : val qs * Y + val ds = X) (hq : qs[j]?.getD 0 = 0) : val (qs.set j q) * Y + val es = X := by
  have e1 := val_drop es j (by omega)
  have e2 := val_drop ds j hj
  rw [take_same hl j hs, hT] at e1
  rw [val_set qs j q hjq, hq, e1, ← hv, e2]
  grind
theorem drop_at {ds es : List Int} {j n : Nat} {D c : Int} (hd : Dig ds) (he : Dig es) (hl : es.length = ds.length) (hj : j + n < ds.length) (hT : val (ds.drop j) < pw (n + 1))
    (hv : val es = val ds + pw j * D + pw (j + n + 1) * c) (hs : ∀ i, i < j ∨ j + n + 1 ≤ i → es[i]?.getD 0 = ds[i]?.getD 0) :
    val (es.drop j) = val (ds.drop j) + D + pw (n + 1) * c ∧ 0 ≤ val (es.drop j) ∧ val (es.drop j) < pw (n + 1) := by
  have b := val_bd _ (dig_drop j he)
  have e1 := val_drop es j (by omega)
  have e2 := val_drop ds j (by omega)
  rw [take_same hl j (fun i hi => hs i (Or.inl hi))] at e1
  have p := pw_pos j
  refine ⟨?_, b.1, ?_⟩
  · rw [show j + n + 1 = j + (n + 1) by omega, pw_add] at hv
    have e3 : pw j * (val (es.drop j)) = pw j * (val (ds.drop j) + D + pw (n + 1) * c) := by
      have : pw j * (val (ds.drop j) + D + pw (n + 1) * c) = pw j * val (ds.drop j) + pw j * D + pw j * pw (n + 1) * c := by grind
      omega
    exact Int.eq_of_mul_eq_mul_left (by omega) e3
  · have z := drop_zero_of (dig_drop j hd) (n + 1) hT
    rw [List.drop_drop, ← drop_same hl (j + (n + 1)) (fun i hi => hs i (Or.inr (by omega)))] at z
    have e4 := val_drop (es.drop j) (n + 1) (by simp; omega)
    rw [List.drop_drop, z, Int.mul_zero, Int.add_zero] at e4
    have := (val_bd _ (dig_take (n + 1) (dig_drop j he))).2
    rw [List.length_take, List.length_drop, Nat.min_eq_left (by omega)] at this
    omega
theorem q_pos {T Y T' P q c : Int} (t0 : 0 ≤ T) (e : T' = T - q * Y + P * c) (t1 : T' < P) (hP : 0 < P) (hc : 0 < c) (q0 : 0 ≤ q) : 1 ≤ q := by
  by_cases h : 1 ≤ q
  · exact h
  · obtain rfl : q = 0 := by omega
    have := Int.mul_le_mul_of_nonneg_left (show 1 ≤ c by omega) (Int.le_of_lt hP)
    omega
/-- The two steps together. -/
theorem give_fin {ds es es2 qs us : List Int} {j : Nat} {q c c2 X f Yb : Int} (hd : Dig ds) (he : Dig es) (he2 : Dig es2) (hu : Dig us) (hq : Dig qs) (hl : es.length = ds.length) (hl2 : es2.length = es.length) (hj : j + us.length < ds.length) (hjq : j < qs.length)
    (g2 : (q - 1) * val us ≤ val (ds.drop j)) (t1 : val (es.drop j) = val (ds.drop j) - q * val us + pw (us.length + 1) * c) (t2 : 0 ≤ val (es.drop j)) (t3 : val (es.drop j) < pw (us.length + 1)) (hc : 0 < c) (d0 : 0 ≤ c2) (d1 : c2 ≤ 1)
    (hev : val es2 = val es + pw j * val us - pw (j + us.length + 1) * c2) (hs : ∀ i, i < j ∨ j + us.length + 1 ≤ i → es[i]?.getD 0 = ds[i]?.getD 0) (hs2 : ∀ i, i < j ∨ j + us.length + 1 ≤ i → es2[i]?.getD 0 = es[i]?.getD 0)
    (hY : val us = Yb * f) (hYb : 0 < Yb) (hf : 1 ≤ f) (hv : val qs * val us + val ds = X) (hz : qs[j]?.getD 0 = 0) (q0 : 0 ≤ q) (q1 : q < 1000000000) :
    val (es2.drop j) < val us ∧ val (qs.set j (q - 1)) * val us + val es2 = X ∧ Dig (qs.set j (q - 1)) := by
  have hY0 : 0 < val us := by rw [hY]; exact Int.mul_pos hYb (by omega)
  have hYp : val us ≤ pw (us.length + 1) := by
    have h1 := (val_bd us hu).2
    have h2 := pw_mono (show us.length ≤ us.length + 1 by omega)
    omega
  have e : pw (j + us.length + 1) * -c2 = -(pw (j + us.length + 1) * c2) := by grind
  obtain ⟨s1, s2, s3⟩ := drop_at (D := val us) (c := -c2) he he2 hl2 (by omega) t3 (by rw [e, hev]; omega) hs2
  have e' : pw (us.length + 1) * -c2 = -(pw (us.length + 1) * c2) := by grind
  obtain ⟨r1, r2⟩ := div_again g2 hYp hY0 t1 t3 t2 hc d0 d1 (by rw [s1, e']; omega) s2 s3
  have hq1 := q_pos (val_bd _ (dig_drop j hd)).1 t1 t3 (pw_pos _) hc q0
  exact ⟨r1, div_fin (hl2.trans hl) (by omega) hjq (fun i hi => (hs2 i (Or.inl hi)).trans (hs i (Or.inl hi))) r2 hv hz, dig_set hq _ _ (by omega) (by omega)⟩
theorem div_end {A B f X Y Q R : Int} (hf : 1 ≤ f) (_hB : 0 < B) (hX : X = A * f) (hY : Y = B * f) (h : Q * Y + R = X) (r0 : 0 ≤ R) (r1 : R < Y) : Q = A / B ∧ R / f = A % B := by
  have e1 : X / Y = Q := by
    rw [← h, Int.add_comm, Int.mul_comm Q Y, Int.add_mul_ediv_left _ _ (by omega), Int.ediv_eq_zero_of_lt r0 r1, Int.zero_add]
  have e2 : X % Y = R := by
    rw [← h, Int.add_comm, Int.mul_comm Q Y, Int.add_mul_emod_self_left, Int.emod_eq_of_lt r0 r1]
  rw [hX, hY, Int.mul_comm A f, Int.mul_comm B f] at e1 e2
  rw [Int.mul_ediv_mul_of_pos _ _ (by omega)] at e1
  rw [Int.mul_emod_mul_of_pos _ _ (by omega)] at e2
  exact ⟨e1.symm, by rw [← e2, Int.mul_ediv_cancel_left _ (by omega)]⟩
end Go.Proofs.Ytdienaigmkaheaa
