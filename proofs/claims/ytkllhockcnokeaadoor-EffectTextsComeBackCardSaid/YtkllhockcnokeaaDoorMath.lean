/- Plain arithmetic of this seat: rounding a part of a whole, numbers of 128 bits. No Go in sight. -/
import Derived.WalkKit
namespace Go.Proofs.YtkllhockcnokeaaDoor
/-- A number of 128 bits in two halves. -/
def Wd (h l V : Int) : Prop := 0 ≤ h ∧ h ≤ 18446744073709551615 ∧ 0 ≤ l ∧ l ≤ 18446744073709551615 ∧ h * 18446744073709551616 + l = V
/-- n / d of s, rounded. -/
def rnd (n d s : Int) : Int := (2 * s * n + d) / (2 * d)

theorem le_rnd {n d s k : Int} (hd : 0 < d) : k ≤ rnd n d s ↔ k * (2 * d) ≤ 2 * s * n + d := by
  unfold rnd; exact Int.le_ediv_iff_mul_le (by omega)
theorem rnd_lt {n d s k : Int} (hd : 0 < d) : rnd n d s < k ↔ 2 * s * n + d < k * (2 * d) := by
  unfold rnd; exact Int.ediv_lt_iff_lt_mul (by omega)
theorem rnd_nonneg {n d s : Int} (hd : 0 < d) (hn : 0 ≤ n) (hs : 0 ≤ s) : 0 ≤ rnd n d s := by
  rw [le_rnd hd]; have := Int.mul_nonneg hs hn; have e : 2 * s * n = 2 * (s * n) := by rw [Int.mul_assoc]
  omega
theorem rnd_le {n d s : Int} (hd : 0 < d) (hn : n ≤ d) (hs : 0 ≤ s) : rnd n d s ≤ s := by
  have h := Int.mul_le_mul_of_nonneg_left hn hs
  have h2 : rnd n d s < s + 1 := by
    rw [rnd_lt hd]; have e : 2 * s * n = 2 * (s * n) := by rw [Int.mul_assoc]
    have e2 : (s + 1) * (2 * d) = 2 * (s * d) + 2 * d := by grind
    omega
  omega
theorem rnd_mono {n n' d d' s : Int} (hd : 0 < d) (hd' : 0 < d') (hs : 0 ≤ s) (h : n * d' ≤ n' * d) : rnd n d s ≤ rnd n' d' s := by
  rw [le_rnd hd']
  have h1 := (le_rnd (n := n) (d := d) (s := s) (k := rnd n d s) hd).1 (Int.le_refl _)
  have h2 := Int.mul_le_mul_of_nonneg_left h hs
  generalize rnd n d s = k at h1 ⊢
  have h3 := Int.mul_le_mul_of_nonneg_right h1 (Int.le_of_lt hd')
  have e1 : k * (2 * d) * d' = (k * (2 * d')) * d := by grind
  have e2 : (2 * s * n + d) * d' = 2 * (s * (n * d')) + d * d' := by grind
  have e3 : (2 * s * n' + d') * d = 2 * (s * (n' * d)) + d * d' := by grind
  have h4 : (k * (2 * d')) * d ≤ (2 * s * n' + d') * d := by omega
  exact Int.le_of_mul_le_mul_right h4 hd
theorem rnd_congr {n n' d d' s : Int} (hd : 0 < d) (hd' : 0 < d') (hs : 0 ≤ s) (h : n * d' = n' * d) : rnd n d s = rnd n' d' s :=
  Int.le_antisymm (rnd_mono hd hd' hs (by omega)) (rnd_mono hd' hd hs (by omega))
theorem rnd_zero {d s : Int} (hd : 0 < d) : rnd 0 d s = 0 := by
  unfold rnd; rw [Int.mul_zero, Int.zero_add]; exact Int.ediv_eq_zero_of_lt (by omega) (by omega)
theorem rnd_full {d s : Int} (hd : 0 < d) : rnd d d s = s := by
  apply Int.le_antisymm
  · have : rnd d d s < s + 1 := by
      rw [rnd_lt hd]; have e2 : (s + 1) * (2 * d) = 2 * s * d + 2 * d := by grind
      omega
    omega
  · rw [le_rnd hd]; have e2 : s * (2 * d) = 2 * s * d := by grind
    omega
theorem rnd_sum {n d s : Int} (hd : 0 < d) : rnd n d s + rnd (d - n) d s = s ∨ rnd n d s + rnd (d - n) d s = s + 1 := by
  have a1 := (le_rnd (n := n) (d := d) (s := s) (k := rnd n d s) hd).1 (Int.le_refl _)
  have a2 := (rnd_lt (n := n) (d := d) (s := s) (k := rnd n d s + 1) hd).1 (by omega)
  have b1 := (le_rnd (n := d - n) (d := d) (s := s) (k := rnd (d - n) d s) hd).1 (Int.le_refl _)
  have b2 := (rnd_lt (n := d - n) (d := d) (s := s) (k := rnd (d - n) d s + 1) hd).1 (by omega)
  generalize rnd n d s = x at *
  generalize rnd (d - n) d s = y at *
  have e : 2 * s * (d - n) = 2 * s * d - 2 * s * n := by grind
  rw [e] at b1 b2
  have c1 : (x + y) * (2 * d) ≤ 2 * s * d + 2 * d := by
    have : (x + y) * (2 * d) = x * (2 * d) + y * (2 * d) := by grind
    omega
  have c2 : 2 * s * d + 2 * d < (x + y + 2) * (2 * d) := by
    have : (x + y + 2) * (2 * d) = (x + 1) * (2 * d) + (y + 1) * (2 * d) := by grind
    omega
  have e3 : (s + 1) * (2 * d) = 2 * s * d + 2 * d := by grind
  have k1 : x + y ≤ s + 1 := by
    have hk : (x + y) * (2 * d) ≤ (s + 1) * (2 * d) := by omega
    exact Int.le_of_mul_le_mul_right hk (by omega)
  have k2 : s + 1 < x + y + 2 := by
    have hk : (s + 1) * (2 * d) < (x + y + 2) * (2 * d) := by omega
    exact Int.lt_of_mul_lt_mul_right hk (by omega)
  omega
/-- The search of 'of': how many places below s + 1 are not yet too great. -/
theorem rnd_search {n d s : Int} (hd : 0 < d) (t : Int) : (2 * s * n + d < d * (2 * t)) ↔ rnd n d s < t := by
  rw [rnd_lt hd]; have : d * (2 * t) = t * (2 * d) := by grind
  omega
end Go.Proofs.YtkllhockcnokeaaDoor
