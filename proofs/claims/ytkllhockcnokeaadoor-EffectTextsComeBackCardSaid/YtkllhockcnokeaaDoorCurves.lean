/- The ways of curves, in plain numbers: bounds, and that none goes back. -/
import Derived.Test.YtkllhockcnokeaaDoorCheck
namespace Go.Proofs.YtkllhockcnokeaaDoor
open Go.RowKit

/-- The points from a on go up to the end. -/
def Chain : Int × Int → List (Int × Int) → Prop
  | a, [] => a = (1000, 1000)
  | a, b :: r => a.1 < b.1 ∧ a.2 ≤ b.2 ∧ Chain b r
theorem chain_le : ∀ (r : List (Int × Int)) (a : Int × Int), Chain a r → a.1 ≤ 1000 ∧ a.2 ≤ 1000
  | [], a, h => by obtain rfl : a = (1000, 1000) := h; simp
  | b :: r, a, h => by
    obtain ⟨h1, h2, h3⟩ := h
    have := chain_le r b h3
    omega
theorem chain_of (l : List (Int × Int)) (h : OkTab l) : ∀ (n k : Nat), n + k + 1 = l.length → Chain (l[k]?.getD (0, 0)) (l.drop (k + 1))
  | 0, k, hk => by
    rw [List.drop_eq_nil_of_le (by omega)]
    have := h.last
    rwa [show l.length - 1 = k by omega] at this
  | n + 1, k, hk => by
    rw [drop_one l (k + 1) (by omega)]
    exact ⟨(h.order k (by omega)).1, (h.order k (by omega)).2, chain_of l h n (k + 1) (by omega)⟩

theorem seg_bd (a b : Int × Int) (p q : Int) (h1 : 0 ≤ a.1) (h2 : a.1 < b.1) (h3 : b.1 ≤ 1000) (h4 : 0 ≤ a.2) (h5 : a.2 ≤ b.2) (h6 : b.2 ≤ 1000) (q0 : 1 ≤ q) (q1 : q ≤ 36000000) (ha : a.1 * q ≤ 1000 * p) (hb : 1000 * p ≤ b.1 * q) :
    a.2 * alD a b q ≤ 1000 * alN a b p q ∧ 1000 * alN a b p q ≤ b.2 * alD a b q ∧ 0 < alD a b q ∧ alD a b q ≤ 36000000000000 := by
  obtain ⟨ta, va⟩ := a
  obtain ⟨tb, vb⟩ := b
  simp only at h1 h2 h3 h4 h5 h6 ha hb
  unfold alD alN
  simp only
  have e1 : (tb - ta) * q = tb * q - ta * q := by grind
  have d0 : 0 < (tb - ta) * q := Int.mul_pos (by omega) (by omega)
  have d1 : (tb - ta) * q ≤ 1000 * 36000000 := Int.mul_le_mul (by omega) (by omega) (by omega) (by omega)
  have m0 : 0 ≤ (vb - va) * (1000 * p - ta * q) := Int.mul_nonneg (by omega) (by omega)
  have m1 : (vb - va) * (1000 * p - ta * q) ≤ (vb - va) * ((tb - ta) * q) := Int.mul_le_mul_of_nonneg_left (by omega) (by omega)
  have e2 : va * (1000 * (tb - ta) * q) = 1000 * (va * (tb - ta) * q) := by grind
  have e3 : vb * (1000 * (tb - ta) * q) = 1000 * (va * (tb - ta) * q + (vb - va) * ((tb - ta) * q)) := by grind
  have e4 : 1000 * (tb - ta) * q = 1000 * ((tb - ta) * q) := by grind
  omega

theorem tab_bd (p q : Int) (p1 : p ≤ q) (q0 : 1 ≤ q) (q1 : q ≤ 36000000) : ∀ (r : List (Int × Int)) (a : Int × Int), r ≠ [] → Chain a r → 0 ≤ a.1 → 0 ≤ a.2 → a.1 * q ≤ 1000 * p →
    a.2 * (tab a r p q).2 ≤ 1000 * (tab a r p q).1 ∧ 0 ≤ (tab a r p q).1 ∧ (tab a r p q).1 ≤ (tab a r p q).2 ∧ 0 < (tab a r p q).2 ∧ (tab a r p q).2 ≤ 36000000000000
  | [], _, h, _, _, _, _ => absurd rfl h
  | b :: r, a, _, hc, h1, h4, ha => by
    obtain ⟨c1, c2, c3⟩ := hc
    have hb := chain_le r b c3
    by_cases hlt : b.1 * q < 1000 * p
    · have hr : r ≠ [] := by
        intro e
        subst e
        obtain rfl : b = (1000, 1000) := c3
        simp only at hlt
        omega
      obtain ⟨g1, g2, g3, g4, g5⟩ := tab_bd p q p1 q0 q1 r b hr c3 (by omega) (by omega) (by omega)
      simp only [tab, if_pos hlt]
      refine ⟨?_, g2, g3, g4, g5⟩
      have := Int.mul_le_mul_of_nonneg_right c2 (Int.le_of_lt g4)
      omega
    · obtain ⟨g1, g2, g3, g4⟩ := seg_bd a b p q h1 c1 hb.1 h4 c2 hb.2 q0 q1 ha (by omega)
      simp only [tab, if_neg hlt]
      have k1 : 0 ≤ a.2 * alD a b q := Int.mul_nonneg h4 (by omega)
      have k2 : b.2 * alD a b q ≤ 1000 * alD a b q := Int.mul_le_mul_of_nonneg_right hb.2 (by omega)
      omega

theorem tab_mono (p p' q : Int) (hp : p ≤ p') (p1 : p' ≤ q) (q0 : 1 ≤ q) (q1 : q ≤ 36000000) : ∀ (r : List (Int × Int)) (a : Int × Int), r ≠ [] → Chain a r → 0 ≤ a.1 → 0 ≤ a.2 → a.1 * q ≤ 1000 * p →
    (tab a r p q).1 * (tab a r p' q).2 ≤ (tab a r p' q).1 * (tab a r p q).2
  | [], _, h, _, _, _, _ => absurd rfl h
  | b :: r, a, _, hc, h1, h4, ha => by
    obtain ⟨c1, c2, c3⟩ := hc
    have hb := chain_le r b c3
    by_cases hlt' : b.1 * q < 1000 * p'
    · have hr : r ≠ [] := by
        intro e
        subst e
        obtain rfl : b = (1000, 1000) := c3
        simp only at hlt'
        omega
      by_cases hlt : b.1 * q < 1000 * p
      · simp only [tab, if_pos hlt, if_pos hlt']
        exact tab_mono p p' q hp p1 q0 q1 r b hr c3 (by omega) (by omega) (by omega)
      · obtain ⟨g1, g2, g3, g4⟩ := seg_bd a b p q h1 c1 hb.1 h4 c2 hb.2 q0 q1 ha (by omega)
        obtain ⟨k1, k2, k3, k4, k5⟩ := tab_bd p' q p1 q0 q1 r b hr c3 (by omega) (by omega) (by omega)
        simp only [tab, if_neg hlt, if_pos hlt']
        generalize tab b r p' q = X at *
        generalize alN a b p q = n at *
        generalize alD a b q = d at *
        have m1 := Int.mul_le_mul_of_nonneg_right g2 (Int.le_of_lt k4)
        have m2 := Int.mul_le_mul_of_nonneg_right k1 (Int.le_of_lt g3)
        have e1 : 1000 * n * X.2 = 1000 * (n * X.2) := by grind
        have e2 : b.2 * d * X.2 = b.2 * X.2 * d := by grind
        have e3 : 1000 * X.1 * d = 1000 * (X.1 * d) := by grind
        omega
    · have hlt : ¬ b.1 * q < 1000 * p := by omega
      obtain ⟨g1, g2, g3, g4⟩ := seg_bd a b p q h1 c1 hb.1 h4 c2 hb.2 q0 q1 ha (by omega)
      simp only [tab, if_neg hlt, if_neg hlt']
      apply Int.mul_le_mul_of_nonneg_right _ (by omega)
      unfold alN
      have := Int.mul_le_mul_of_nonneg_left (show 1000 * p - a.1 * q ≤ 1000 * p' - a.1 * q by omega) (show 0 ≤ b.2 - a.2 by omega)
      omega

/-- A right curve. -/
structure OkCurve (k : Int) (l : List (Int × Int)) : Prop where
  lo : 1 ≤ k
  hi : k ≤ 6
  tab : k = 6 → OkTab l

theorem kinds {k : Int} {l : List (Int × Int)} (h : OkCurve k l) : k = 1 ∨ k = 2 ∨ k = 3 ∨ k = 4 ∨ k = 5 ∨ k = 6 := by have := h.lo; have := h.hi; omega

theorem soft_le {p q : Int} (p0 : 0 ≤ p) (p1 : p ≤ q) : p * p * (3 * q - 2 * p) ≤ q * q * q := by
  have h := Int.mul_nonneg (Int.mul_nonneg (show 0 ≤ q - p by omega) (show 0 ≤ q - p by omega)) (show 0 ≤ q + 2 * p by omega)
  have e : (q - p) * (q - p) * (q + 2 * p) = q * q * q - p * p * (3 * q - 2 * p) := by grind
  omega
theorem soft_mono {p p' q : Int} (p0 : 0 ≤ p) (hp : p ≤ p') (p1 : p' ≤ q) : p * p * (3 * q - 2 * p) ≤ p' * p' * (3 * q - 2 * p') := by
  -- the difference is (p' - p) (3 q (p + p') - 2 (p p + p p' + p' p')), and p p, p p', p' p' are at most q times their mean
  have a1 : p * p ≤ q * p := Int.mul_le_mul_of_nonneg_right (by omega) p0
  have a2 : p' * p' ≤ q * p' := Int.mul_le_mul_of_nonneg_right (by omega) (by omega)
  have a3 : 0 ≤ (p' - p) * (p' - p) := by
    have := Int.mul_nonneg (show 0 ≤ p' - p by omega) (show 0 ≤ p' - p by omega); exact this
  have e3 : (p' - p) * (p' - p) = p' * p' - 2 * (p * p') + p * p := by grind
  have a4 : 2 * (p * p + p * p' + p' * p') ≤ 3 * (q * (p + p')) := by
    have e : q * (p + p') = q * p + q * p' := by grind
    omega
  have h := Int.mul_nonneg (show 0 ≤ p' - p by omega) (show 0 ≤ 3 * (q * (p + p')) - 2 * (p * p + p * p' + p' * p') by omega)
  have e : (p' - p) * (3 * (q * (p + p')) - 2 * (p * p + p * p' + p' * p')) = p' * p' * (3 * q - 2 * p') - p * p * (3 * q - 2 * p) := by grind
  omega

theorem cube_bd {q : Int} (q0 : 1 ≤ q) (q1 : q ≤ 36000000) : 0 < q * q * q ∧ q * q * q ≤ 46656000000000000000000 := by
  have h0 : 0 < q * q := Int.mul_pos (by omega) (by omega)
  have h1 := sq_bd (q := q) (by omega) q1
  have h2 : q * q * q ≤ 1296000000000000 * 36000000 := Int.mul_le_mul h1 q1 (by omega) (by omega)
  exact ⟨Int.mul_pos h0 (by omega), by omega⟩

theorem way_ok {k : Int} {l : List (Int × Int)} (h : OkCurve k l) {p q : Int} (p0 : 0 ≤ p) (p1 : p ≤ q) (q0 : 1 ≤ q) (q1 : q ≤ 36000000) : RaOk (wN k l p q) (wD k l p q) := by
  have hs := sq_le p0 p1
  have hs2 := sq_bd (q := q) (by omega) q1
  have hs3 : 0 ≤ p * p := Int.mul_nonneg p0 p0
  have hs4 : 0 < q * q := Int.mul_pos (by omega) (by omega)
  unfold RaOk
  rcases kinds h with rfl | rfl | rfl | rfl | rfl | rfl
  · show 0 ≤ p ∧ p ≤ q ∧ 0 < q ∧ q ≤ _; omega
  · show 0 ≤ p * p ∧ p * p ≤ q * q ∧ 0 < q * q ∧ q * q ≤ _; omega
  · have hr := sq_le (p := q - p) (q := q) (by omega) (by omega)
    have hr0 := Int.mul_nonneg (show 0 ≤ q - p by omega) (show 0 ≤ q - p by omega)
    show 0 ≤ q * q - (q - p) * (q - p) ∧ q * q - (q - p) * (q - p) ≤ q * q ∧ 0 < q * q ∧ q * q ≤ _; omega
  · have c := cube_bd q0 q1
    have s := soft_le p0 p1
    have n := Int.mul_nonneg hs3 (show 0 ≤ 3 * q - 2 * p by omega)
    show 0 ≤ p * p * (3 * q - 2 * p) ∧ p * p * (3 * q - 2 * p) ≤ q * q * q ∧ 0 < q * q * q ∧ q * q * q ≤ _; omega
  · have d0 : 0 ≤ p / q := Int.ediv_nonneg p0 (by omega)
    have d1 : p / q < 2 := Int.ediv_lt_of_lt_mul (by omega) (by omega)
    show 0 ≤ p / q ∧ p / q ≤ 1 ∧ 0 < (1 : Int) ∧ (1 : Int) ≤ _; omega
  · have hT := h.tab rfl
    have hc := chain_of l hT (l.length - 1) 0 (by have := hT.two; omega)
    have hf := hT.first
    have hne : l.drop 1 ≠ [] := by intro e; have := List.drop_eq_nil_iff.1 e; have := hT.two; omega
    have := tab_bd p q p1 q0 q1 (l.drop 1) _ hne hc (by rw [hf]; exact Int.le_refl _) (by rw [hf]; exact Int.le_refl _) (by rw [hf]; show 0 * q ≤ _; omega)
    show 0 ≤ (tab _ _ p q).1 ∧ (tab _ _ p q).1 ≤ (tab _ _ p q).2 ∧ 0 < (tab _ _ p q).2 ∧ (tab _ _ p q).2 ≤ _
    omega

theorem way_mono {k : Int} {l : List (Int × Int)} (h : OkCurve k l) {p p' q : Int} (p0 : 0 ≤ p) (hp : p ≤ p') (p1 : p' ≤ q) (q0 : 1 ≤ q) (q1 : q ≤ 36000000) : wN k l p q * wD k l p' q ≤ wN k l p' q * wD k l p q := by
  rcases kinds h with rfl | rfl | rfl | rfl | rfl | rfl
  · show p * q ≤ p' * q; exact Int.mul_le_mul_of_nonneg_right hp (by omega)
  · show p * p * (q * q) ≤ p' * p' * (q * q); exact Int.mul_le_mul_of_nonneg_right (sq_le p0 hp) (Int.mul_nonneg (by omega) (by omega))
  · have := sq_le (p := q - p') (q := q - p) (by omega) (by omega)
    show (q * q - (q - p) * (q - p)) * (q * q) ≤ (q * q - (q - p') * (q - p')) * (q * q); exact Int.mul_le_mul_of_nonneg_right (by omega) (Int.mul_nonneg (by omega) (by omega))
  · have c := cube_bd q0 q1
    show p * p * (3 * q - 2 * p) * (q * q * q) ≤ p' * p' * (3 * q - 2 * p') * (q * q * q); exact Int.mul_le_mul_of_nonneg_right (soft_mono p0 hp p1) (by omega)
  · show p / q * 1 ≤ p' / q * 1
    have := Int.ediv_le_ediv (show 0 < q by omega) hp
    omega
  · have hT := h.tab rfl
    have hc := chain_of l hT (l.length - 1) 0 (by have := hT.two; omega)
    have hf := hT.first
    have hne : l.drop 1 ≠ [] := by intro e; have := List.drop_eq_nil_iff.1 e; have := hT.two; omega
    exact tab_mono p p' q hp p1 q0 q1 (l.drop 1) _ hne hc (by rw [hf]; exact Int.le_refl _) (by rw [hf]; exact Int.le_refl _) (by rw [hf]; show 0 * q ≤ _; omega)

/-- Between a and b, by two ways one of which is not less. -/
theorem btw_mono {n n' d d' a b : Int} (h : RaOk n d) (h' : RaOk n' d') (hm : n * d' ≤ n' * d) : (a ≤ b → btw n d a b ≤ btw n' d' a b) ∧ (b ≤ a → btw n' d' a b ≤ btw n d a b) := by
  obtain ⟨h1, h2, h3, h4⟩ := h
  obtain ⟨h1', h2', h3', h4'⟩ := h'
  unfold btw
  constructor
  · intro hab
    rw [if_neg (by omega), if_neg (by omega)]
    have := rnd_mono (s := b - a) h3 h3' (by omega) hm
    omega
  · intro hab
    by_cases hlt : b < a
    · rw [if_pos hlt, if_pos hlt]
      have e1 : (d' - n') * d = d' * d - n' * d := by grind
      have e2 : (d - n) * d' = d' * d - n * d' := by grind
      have := rnd_mono (n := d' - n') (n' := d - n) (s := a - b) h3' h3 (by omega) (by omega)
      omega
    · rw [if_neg hlt, if_neg hlt]
      obtain rfl : a = b := by omega
      have := rnd_le (n := n') (s := a - a) h3' h2' (by omega)
      have := rnd_nonneg (n := n) (s := a - a) h3 h1 (by omega)
      omega
theorem btw_bd {n d a b : Int} (h : RaOk n d) : (a ≤ b → a ≤ btw n d a b ∧ btw n d a b ≤ b) ∧ (b ≤ a → b ≤ btw n d a b ∧ btw n d a b ≤ a) := by
  obtain ⟨h1, h2, h3, h4⟩ := h
  unfold btw
  constructor
  · intro hab
    rw [if_neg (by omega)]
    have := rnd_le (n := n) (s := b - a) h3 h2 (by omega)
    have := rnd_nonneg (n := n) (s := b - a) h3 h1 (by omega)
    omega
  · intro hab
    by_cases hlt : b < a
    · rw [if_pos hlt]
      have := rnd_le (n := d - n) (s := a - b) h3 (by omega) (by omega)
      have := rnd_nonneg (n := d - n) (s := a - b) h3 (by omega) (by omega)
      omega
    · rw [if_neg hlt]
      have := rnd_le (n := n) (s := b - a) h3 h2 (by omega)
      have := rnd_nonneg (n := n) (s := b - a) h3 h1 (by omega)
      omega
end Go.Proofs.YtkllhockcnokeaaDoor
