/- The reference's numbers of digits: divide. -/
import Derived.Test.YtdienaigmkaheaaNatP
namespace Go.Proofs.Ytdienaigmkaheaa
open Go.RowKit

theorem take_same {a b : List Int} (hl : a.length = b.length) (j : Nat) (h : ∀ i, i < j → a[i]?.getD 0 = b[i]?.getD 0) : a.take j = b.take j := by
  apply List.ext_getElem (by simp [hl])
  intro i h1 h2
  simp only [List.length_take] at h1 h2
  have := h i (by omega)
  rw [List.getElem?_eq_getElem (by omega), List.getElem?_eq_getElem (by omega)] at this
  simpa using this
theorem drop_same {a b : List Int} (hl : a.length = b.length) (j : Nat) (h : ∀ i, j ≤ i → a[i]?.getD 0 = b[i]?.getD 0) : a.drop j = b.drop j := by
  apply List.ext_getElem (by simp [hl])
  intro i h1 h2
  simp only [List.length_drop] at h1 h2
  have := h (j + i) (by omega)
  rw [List.getElem?_eq_getElem (by omega), List.getElem?_eq_getElem (by omega)] at this
  simpa using this
theorem val_one (ds : List Int) (k : Nat) (hk : k < ds.length) : val (ds.drop k) = ds[k]?.getD 0 + 1000000000 * val (ds.drop (k + 1)) := by
  rw [drop_cons' ds k hk]; rfl
/-- What is above place m is nothing, if the number is small. -/
theorem drop_zero_of {l : List Int} (h : Dig l) (m : Nat) (hv : val l < pw m) : val (l.drop m) = 0 := by
  by_cases hm : m ≤ l.length
  · have e := val_drop l m hm
    have b1 := val_bd _ (dig_take m h)
    have b2 := val_bd _ (dig_drop m h)
    by_cases hz : val (l.drop m) = 0
    · exact hz
    · have := Int.mul_le_mul_of_nonneg_left (show 1 ≤ val (l.drop m) by omega) (Int.le_of_lt (pw_pos m))
      omega
  · rw [List.drop_eq_nil_of_le (by omega)]; rfl

theorem guess_at {ds ys : List Int} (hd : Dig ds) (hy : Dig ys) {j : Nat} (hn : 2 ≤ ys.length) (hj : j + ys.length < ds.length) (h : val (ds.drop (j + 1)) < val ys) (hb : 500000000 ≤ ys[ys.length - 1]?.getD 0) :
    GuessAt (val (ds.drop j)) (val ys) (ds[j + ys.length]?.getD 0) (ds[j + ys.length - 1]?.getD 0) (ds[j + ys.length - 2]?.getD 0) (ys[ys.length - 1]?.getD 0) (ys[ys.length - 2]?.getD 0) := by
  have e0 := val_one ds j (by omega)
  have b0 := hd j (by omega)
  have by0 := val_bd ys hy
  have hT : val (ds.drop j) < val ys * 1000000000 := by omega
  refine ⟨dig_at hd _, dig_at hd _, dig_at hd _, ⟨hb, (dig_at hy _).2⟩, dig_at hy _, ?_, hT⟩
  obtain ⟨m, hm⟩ : ∃ m, ys.length = m + 2 := ⟨ys.length - 2, by omega⟩
  have hdd := dig_drop j hd
  have hsm : val (ds.drop j) < pw (m + 3) := by
    rw [show m + 3 = (m + 2) + 1 from rfl, pw_succ, ← hm]; omega
  have z := drop_zero_of hdd (m + 3) hsm
  rw [List.drop_drop] at z
  refine ⟨pw m, val (ys.take m), val ((ds.drop j).take m), pw_pos m, (val_bd _ (dig_take m hy)).1, ?_, (val_bd _ (dig_take m hdd)).1, ?_, ?_, ?_⟩
  · have := (val_bd _ (dig_take m hy)).2
    rwa [List.length_take, Nat.min_eq_left (by omega)] at this
  · have := (val_bd _ (dig_take m hdd)).2
    rwa [List.length_take, List.length_drop, Nat.min_eq_left (by omega)] at this
  · have e1 := val_drop ys m (by omega)
    rw [val_one ys m (by omega), val_one ys (m + 1) (by omega), List.drop_eq_nil_of_le (show ys.length ≤ m + 1 + 1 by omega)] at e1
    rw [e1, show ys.length - 1 = m + 1 by omega, show ys.length - 2 = m by omega]
    simp only [val]
    grind
  · have e1 := val_drop (ds.drop j) m (by simp; omega)
    rw [List.drop_drop, val_one ds (j + m) (by omega), val_one ds (j + m + 1) (by omega), val_one ds (j + m + 1 + 1) (by omega), show j + m + 1 + 1 + 1 = j + (m + 3) by omega, z] at e1
    rw [e1, show j + ys.length = j + m + 1 + 1 by omega, show j + m + 1 + 1 - 1 = j + m + 1 by omega, show j + m + 1 + 1 - 2 = j + m by omega]
    grind

/-- What 'take' leaves of the places from j on. -/
theorem div_take {ds es ys : List Int} {j : Nat} {q c : Int} (hd : Dig ds) (he : Dig es) (hy : Dig ys) (hl : es.length = ds.length) (hj : j + ys.length < ds.length) (h : val (ds.drop (j + 1)) < val ys)
    (hv : val es = val ds - pw j * (q * val ys) + pw (j + ys.length + 1) * c) (_c0 : 0 ≤ c) (hs : ∀ i, i < j ∨ j + ys.length + 1 ≤ i → es[i]?.getD 0 = ds[i]?.getD 0) :
    val (es.drop j) = val (ds.drop j) - q * val ys + pw (ys.length + 1) * c ∧ 0 ≤ val (es.drop j) ∧ val (es.drop j) < pw (ys.length + 1) := by
  have b := val_bd _ (dig_drop j he)
  have e1 := val_drop es j (by omega)
  have e2 := val_drop ds j (by omega)
  rw [take_same hl j (fun i hi => hs i (Or.inl hi))] at e1
  have p := pw_pos j
  refine ⟨?_, b.1, ?_⟩
  · rw [show j + ys.length + 1 = j + (ys.length + 1) by omega, pw_add] at hv
    have e3 : pw j * (val (es.drop j)) = pw j * (val (ds.drop j) - q * val ys + pw (ys.length + 1) * c) := by
      have : pw j * (val (ds.drop j) - q * val ys + pw (ys.length + 1) * c) = pw j * val (ds.drop j) - pw j * (q * val ys) + pw j * pw (ys.length + 1) * c := by grind
      omega
    exact Int.eq_of_mul_eq_mul_left (by omega) e3
  · have hT : val (ds.drop j) < pw (ys.length + 1) := by
      have e0 := val_one ds j (by omega)
      have b0 := hd j (by omega)
      have by0 := val_bd ys hy
      rw [pw_succ]; omega
    have z := drop_zero_of (dig_drop j hd) (ys.length + 1) hT
    rw [List.drop_drop, ← drop_same hl (j + (ys.length + 1)) (fun i hi => hs i (Or.inr (by omega)))] at z
    have e4 := val_drop (es.drop j) (ys.length + 1) (by simp; omega)
    rw [List.drop_drop, z, Int.mul_zero, Int.add_zero] at e4
    have := (val_bd _ (dig_take (ys.length + 1) (dig_drop j he))).2
    rw [List.length_take, List.length_drop, Nat.min_eq_left (by omega)] at this
    omega
theorem div_done {T Y T' p q c : Int} (g1 : T < (q + 1) * Y) (e : T' = T - q * Y + p * c) (_t0 : 0 ≤ T') (hc : c = 0) : T' < Y ∧ T' = T - q * Y := by
  subst hc
  have : (q + 1) * Y = q * Y + Y := by grind
  omega
theorem div_again {T Y T' T'' p q c d : Int} (g2 : (q - 1) * Y ≤ T) (hYp : Y ≤ p) (_hY : 0 < Y) (e : T' = T - q * Y + p * c) (t1 : T' < p) (t0 : 0 ≤ T') (hc : 0 < c) (d0 : 0 ≤ d) (d1 : d ≤ 1)
    (e2 : T'' = T' + Y - p * d) (_s0 : 0 ≤ T'') (s1 : T'' < p) : T'' < Y ∧ T'' = T - (q - 1) * Y := by
  have f : (q - 1) * Y = q * Y - Y := by grind
  have hc1 : c = 1 := by
    by_cases h : c = 1
    · exact h
    · have := Int.mul_le_mul_of_nonneg_left (show 2 ≤ c by omega) (show 0 ≤ p by omega)
      omega
  subst hc1
  have hd1 : d = 1 := by
    by_cases h : d = 1
    · exact h
    · obtain rfl : d = 0 := by omega
      omega
  subst hd1
  omega
/-- Scaled, the highest digit is at least half the base. -/
theorem norm_top {top f : Int} (h0 : 1 ≤ top) (h1 : top < 1000000000) (hf : f = 1000000000 / (top + 1)) : 500000000 ≤ f * top ∧ f * (top + 1) ≤ 1000000000 ∧ 1 ≤ f ∧ f ≤ 500000000 := by
  have e := Int.mul_ediv_add_emod 1000000000 (top + 1)
  have r0 := Int.emod_nonneg 1000000000 (show top + 1 ≠ 0 by omega)
  have r1 := Int.emod_lt_of_pos 1000000000 (show 0 < top + 1 by omega)
  rw [← hf] at e
  generalize (1000000000 : Int) % (top + 1) = r at *
  have e1 : (top + 1) * f = f * (top + 1) := by grind
  have e2 : f * (top + 1) = f * top + f := by grind
  have f1 : 1 ≤ f := by
    by_cases h : 1 ≤ f
    · exact h
    · have := Int.mul_le_mul_of_nonneg_right (show f ≤ 0 by omega) (show 0 ≤ top + 1 by omega)
      omega
  have f2 : 2 * f ≤ f * (top + 1) := by
    have := Int.mul_le_mul_of_nonneg_left (show 2 ≤ top + 1 by omega) (show 0 ≤ f by omega)
    omega
  refine ⟨?_, by omega, f1, by omega⟩
  by_cases ht : top = 1
  · subst ht; omega
  by_cases hf1 : f = 1
  · subst hf1; omega
  · have := Int.mul_le_mul (show 1 ≤ f - 1 by omega) (show 1 ≤ top - 1 by omega) (by omega) (by omega)
    have e3 : (f - 1) * (top - 1) = f * top - f - top + 1 := by grind
    omega
end Go.Proofs.Ytdienaigmkaheaa
