/- The inverse of a curve, in plain numbers: it goes the way back. -/
import Derived.Test.YtdienaigmkaheaaCurves
namespace Go.Proofs.Ytdienaigmkaheaa
open Go.RowKit

/-- A segment of a table that holds p / q. -/
def Seg (l : List (Int × Int)) (p q : Int) (i : Nat) : Prop := i + 1 < l.length ∧ (l[i]?.getD (0, 0)).1 * q ≤ 1000 * p ∧ 1000 * p ≤ (l[i + 1]?.getD (0, 0)).1 * q
theorem tab_seg {l : List (Int × Int)} (hT : OkTab l) {p q : Int} (p1 : p ≤ q) : ∀ (n k : Nat), n + k + 2 = l.length → (l[k]?.getD (0, 0)).1 * q ≤ 1000 * p →
    ∃ i, Seg l p q i ∧ tab (l[k]?.getD (0, 0)) (l.drop (k + 1)) p q = (alN (l[i]?.getD (0, 0)) (l[i + 1]?.getD (0, 0)) p q, alD (l[i]?.getD (0, 0)) (l[i + 1]?.getD (0, 0)) q) := by
  intro n
  induction n with
  | zero =>
    intro k hn hk
    rw [drop_one l (k + 1) (by omega)]
    have hl := hT.last
    rw [show l.length - 1 = k + 1 by omega] at hl
    have h : ¬ (l[k + 1]?.getD (0, 0)).1 * q < 1000 * p := by rw [hl]; show ¬ 1000 * q < 1000 * p; omega
    unfold tab
    rw [if_neg h]
    exact ⟨k, ⟨by omega, hk, by omega⟩, rfl⟩
  | succ n ih =>
    intro k hn hk
    rw [drop_one l (k + 1) (by omega)]
    unfold tab
    by_cases h : (l[k + 1]?.getD (0, 0)).1 * q < 1000 * p
    · rw [if_pos h]
      exact ih (k + 1) (by omega) (by omega)
    · rw [if_neg h]
      exact ⟨k, ⟨by omega, hk, by omega⟩, rfl⟩
theorem tab_at {l : List (Int × Int)} (hT : OkTab l) {p q : Int} (p0 : 0 ≤ p) (p1 : p ≤ q) :
    ∃ i, Seg l p q i ∧ tab (l[0]?.getD (0, 0)) (l.drop 1) p q = (alN (l[i]?.getD (0, 0)) (l[i + 1]?.getD (0, 0)) p q, alD (l[i]?.getD (0, 0)) (l[i + 1]?.getD (0, 0)) q) := by
  have h2 := hT.two
  refine tab_seg hT p1 (l.length - 2) 0 (by omega) ?_
  rw [hT.first]
  show 0 * q ≤ _
  omega
theorem tab_lt {l : List (Int × Int)} (hT : OkTab l) : ∀ (d i : Nat), i + d + 1 < l.length → (l[i]?.getD (0, 0)).1 < (l[i + d + 1]?.getD (0, 0)).1 := by
  intro d
  induction d with
  | zero => intro i h; exact (hT.order i h).1
  | succ d ih =>
    intro i h
    have h1 := ih i (by omega)
    have h2 := (hT.order (i + d + 1) (by omega)).1
    rw [show i + (d + 1) + 1 = i + d + 1 + 1 by omega]
    omega
theorem seg_arith (a b c : Int × Int) (p q : Int) (h : 1000 * p = b.1 * q) : alN a b p q * alD b c q = alN b c p q * alD a b q := by
  unfold alN alD
  rw [h]
  grind
/-- Two segments that hold p / q give one way. -/
theorem seg_same {l : List (Int × Int)} (hT : OkTab l) {p q : Int} (q0 : 1 ≤ q) {i j : Nat} (hi : Seg l p q i) (hj : Seg l p q j) (hij : i ≤ j) :
    alN (l[i]?.getD (0, 0)) (l[i + 1]?.getD (0, 0)) p q * alD (l[j]?.getD (0, 0)) (l[j + 1]?.getD (0, 0)) q = alN (l[j]?.getD (0, 0)) (l[j + 1]?.getD (0, 0)) p q * alD (l[i]?.getD (0, 0)) (l[i + 1]?.getD (0, 0)) q := by
  obtain ⟨i1, i2, i3⟩ := hi
  obtain ⟨j1, j2, j3⟩ := hj
  by_cases e : i = j
  · subst e; rfl
  · have hle : (l[j]?.getD (0, 0)).1 * q ≤ (l[i + 1]?.getD (0, 0)).1 * q := by omega
    have hle := Int.le_of_mul_le_mul_right hle (by omega)
    have hji : j = i + 1 := by
      by_cases hlt : i + 1 < j
      · have := tab_lt hT (j - (i + 1) - 1) (i + 1) (by omega)
        rw [show i + 1 + (j - (i + 1) - 1) + 1 = j by omega] at this
        omega
      · omega
    subst hji
    exact seg_arith _ _ _ p q (by omega)
theorem seg_any {l : List (Int × Int)} (hT : OkTab l) {p q : Int} (q0 : 1 ≤ q) {i j : Nat} (hi : Seg l p q i) (hj : Seg l p q j) :
    alN (l[i]?.getD (0, 0)) (l[i + 1]?.getD (0, 0)) p q * alD (l[j]?.getD (0, 0)) (l[j + 1]?.getD (0, 0)) q = alN (l[j]?.getD (0, 0)) (l[j + 1]?.getD (0, 0)) p q * alD (l[i]?.getD (0, 0)) (l[i + 1]?.getD (0, 0)) q := by
  rcases Nat.le_total i j with h | h
  · exact seg_same hT q0 hi hj h
  · exact (seg_same hT q0 hj hi h).symm

/-! The inverse. -/
def opp (x : Int × Int) : Int × Int := (1000 - x.1, 1000 - x.2)
def invL (l : List (Int × Int)) : List (Int × Int) := l.reverse.map opp
def invK (k : Int) : Int := if k = 2 then 3 else if k = 3 then 2 else k
theorem inv_len (l : List (Int × Int)) : (invL l).length = l.length := by unfold invL; simp
theorem inv_get (l : List (Int × Int)) (i : Nat) (h : i < l.length) : (invL l)[i]?.getD (0, 0) = opp (l[l.length - 1 - i]?.getD (0, 0)) := by
  unfold invL
  rw [List.getElem?_map, List.getElem?_reverse h, List.getElem?_eq_getElem (show l.length - 1 - i < l.length by omega)]
  rfl
theorem inv_inv (l : List (Int × Int)) : invL (invL l) = l := by
  unfold invL
  rw [← List.map_reverse, List.reverse_reverse, List.map_map]
  have : ∀ x ∈ l, (opp ∘ opp) x = id x := fun x _ => by
    show (1000 - (1000 - x.1), 1000 - (1000 - x.2)) = x
    rw [show 1000 - (1000 - x.1) = x.1 by omega, show 1000 - (1000 - x.2) = x.2 by omega]
  rw [List.map_congr_left this, List.map_id]
theorem inv_ok {l : List (Int × Int)} (hT : OkTab l) : OkTab (invL l) := by
  have h2 := hT.two
  refine ⟨by rw [inv_len]; exact hT.two, by rw [inv_len]; exact hT.most, ?_, ?_, ?_, ?_⟩
  · intro i hi
    rw [inv_len] at hi
    rw [inv_get l i hi]
    obtain ⟨a, b, c, d⟩ := hT.range (l.length - 1 - i) (by omega)
    show 0 ≤ 1000 - _ ∧ 1000 - _ ≤ 1000 ∧ 0 ≤ 1000 - _ ∧ 1000 - _ ≤ 1000
    omega
  · rw [inv_get l 0 (by omega), show l.length - 1 - 0 = l.length - 1 by omega, hT.last]; rfl
  · rw [inv_len, inv_get l _ (by omega), show l.length - 1 - (l.length - 1) = 0 by omega, hT.first]; rfl
  · intro i hi
    rw [inv_len] at hi
    rw [inv_get l i (by omega), inv_get l (i + 1) hi]
    obtain ⟨a, b⟩ := hT.order (l.length - 1 - (i + 1)) (by omega)
    rw [show l.length - 1 - (i + 1) + 1 = l.length - 1 - i by omega] at a b
    show 1000 - _ < 1000 - _ ∧ 1000 - _ ≤ 1000 - _
    omega
theorem inv_seg {l : List (Int × Int)} {p q : Int} {i : Nat} (h : Seg l p q i) : Seg (invL l) (q - p) q (l.length - 2 - i) := by
  obtain ⟨h1, h2, h3⟩ := h
  refine ⟨by rw [inv_len]; omega, ?_, ?_⟩
  · rw [inv_get l _ (by omega), show l.length - 1 - (l.length - 2 - i) = i + 1 by omega]
    show (1000 - (l[i + 1]?.getD (0, 0)).1) * q ≤ _
    rw [Int.sub_mul]; omega
  · rw [inv_get l _ (by omega), show l.length - 1 - (l.length - 2 - i + 1) = i by omega]
    show _ ≤ (1000 - (l[i]?.getD (0, 0)).1) * q
    rw [Int.sub_mul]; omega
theorem opp_al (a b : Int × Int) (p q : Int) : alN (opp b) (opp a) (q - p) q = alD a b q - alN a b p q ∧ alD (opp b) (opp a) q = alD a b q := by
  unfold alN alD opp
  constructor
  · show (1000 - b.2) * (1000 - a.1 - (1000 - b.1)) * q + (1000 - a.2 - (1000 - b.2)) * (1000 * (q - p) - (1000 - b.1) * q) = _
    grind
  · show 1000 * (1000 - a.1 - (1000 - b.1)) * q = _
    grind
/-- The way back. -/
theorem inv_tab {l : List (Int × Int)} (hT : OkTab l) {p q : Int} (p0 : 0 ≤ p) (p1 : p ≤ q) (q0 : 1 ≤ q) :
    (tab ((invL l)[0]?.getD (0, 0)) ((invL l).drop 1) (q - p) q).1 * (tab (l[0]?.getD (0, 0)) (l.drop 1) p q).2 = ((tab (l[0]?.getD (0, 0)) (l.drop 1) p q).2 - (tab (l[0]?.getD (0, 0)) (l.drop 1) p q).1) * (tab ((invL l)[0]?.getD (0, 0)) ((invL l).drop 1) (q - p) q).2 := by
  obtain ⟨i, hi, e1⟩ := tab_at hT p0 p1
  obtain ⟨j, hj, e2⟩ := tab_at (inv_ok hT) (p := q - p) (q := q) (by omega) (by omega)
  rw [e1, e2]
  have hs := inv_seg hi
  have he := seg_any (inv_ok hT) q0 hj hs
  have hi1 := hi.1
  rw [inv_get l (l.length - 2 - i) (by omega), inv_get l (l.length - 2 - i + 1) (by omega), show l.length - 1 - (l.length - 2 - i) = i + 1 by omega, show l.length - 1 - (l.length - 2 - i + 1) = i by omega] at he
  obtain ⟨o1, o2⟩ := opp_al (l[i]?.getD (0, 0)) (l[i + 1]?.getD (0, 0)) p q
  rw [o1, o2] at he
  exact he
theorem inv_curve {k : Int} {l : List (Int × Int)} (h : OkCurve k l) (h5 : k ≠ 5) : OkCurve (invK k) (if k = 6 then invL l else []) := by
  rcases kinds h with rfl | rfl | rfl | rfl | rfl | rfl
  · exact ⟨by decide, by decide, fun e => by cases e⟩
  · exact ⟨by decide, by decide, fun e => by cases e⟩
  · exact ⟨by decide, by decide, fun e => by cases e⟩
  · exact ⟨by decide, by decide, fun e => by cases e⟩
  · exact absurd rfl h5
  · exact ⟨by decide, by decide, fun _ => inv_ok (h.tab rfl)⟩
theorem inv_way {k : Int} {l : List (Int × Int)} (h : OkCurve k l) (h5 : k ≠ 5) {p q : Int} (p0 : 0 ≤ p) (p1 : p ≤ q) (q0 : 1 ≤ q) :
    wN (invK k) (if k = 6 then invL l else []) (q - p) q * wD k l p q = (wD k l p q - wN k l p q) * wD (invK k) (if k = 6 then invL l else []) (q - p) q := by
  rcases kinds h with rfl | rfl | rfl | rfl | rfl | rfl
  · show (q - p) * q = (q - p) * q; rfl
  · show (q * q - (q - (q - p)) * (q - (q - p))) * (q * q) = (q * q - p * p) * (q * q)
    rw [show q - (q - p) = p by omega]
  · show (q - p) * (q - p) * (q * q) = (q * q - (q * q - (q - p) * (q - p))) * (q * q)
    grind
  · show (q - p) * (q - p) * (3 * q - 2 * (q - p)) * (q * q * q) = (q * q * q - p * p * (3 * q - 2 * p)) * (q * q * q)
    have : (q - p) * (q - p) * (3 * q - 2 * (q - p)) = q * q * q - p * p * (3 * q - 2 * p) := by grind
    rw [this]
  · exact absurd rfl h5
  · exact inv_tab (h.tab rfl) p0 p1 q0
/-- Both ways, rounded, are all, or one more. -/
theorem inv_sum {k : Int} {l : List (Int × Int)} (h : OkCurve k l) (h5 : k ≠ 5) {p q : Int} (p0 : 0 ≤ p) (p1 : p ≤ q) (q0 : 1 ≤ q) (q1 : q ≤ 36000000) :
    rnd (wN k l p q) (wD k l p q) 65535 + rnd (wN (invK k) (if k = 6 then invL l else []) (q - p) q) (wD (invK k) (if k = 6 then invL l else []) (q - p) q) 65535 = 65535 ∨
    rnd (wN k l p q) (wD k l p q) 65535 + rnd (wN (invK k) (if k = 6 then invL l else []) (q - p) q) (wD (invK k) (if k = 6 then invL l else []) (q - p) q) 65535 = 65536 := by
  have o1 := way_ok h p0 p1 q0 q1
  have o2 := way_ok (inv_curve h h5) (p := q - p) (q := q) (by omega) (by omega) q0 q1
  obtain ⟨_, _, d1, _⟩ := o1
  obtain ⟨_, _, d2, _⟩ := o2
  rw [rnd_congr (n := wN (invK k) (if k = 6 then invL l else []) (q - p) q) d2 d1 (by decide) (inv_way h h5 p0 p1 q0)]
  exact rnd_sum d1
theorem inv_inv_curve {k : Int} (h5 : k ≠ 5) : invK (invK k) = k := by
  unfold invK
  by_cases h2 : k = 2
  · subst h2; rfl
  · rw [if_neg h2]
    by_cases h3 : k = 3
    · subst h3; rfl
    · rw [if_neg h3, if_neg h2, if_neg h3]
end Go.Proofs.Ytdienaigmkaheaa
