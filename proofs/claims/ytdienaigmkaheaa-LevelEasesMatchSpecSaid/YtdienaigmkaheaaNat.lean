/- Numbers of digits to the base 10^9, in plain mathematics. -/
import Derived.Test.YtdienaigmkaheaaOwnR
namespace Go.Proofs.Ytdienaigmkaheaa

/-- The number that digits stand for, the lowest one first. -/
def val : List Int → Int
  | [] => 0
  | d :: r => d + 1000000000 * val r
/-- Digits. -/
def Dig (l : List Int) : Prop := ∀ i, i < l.length → 0 ≤ l[i]?.getD 0 ∧ l[i]?.getD 0 < 1000000000
/-- Without needless zeros. -/
def Trm (l : List Int) : Prop := l = [] ∨ l[l.length - 1]?.getD 0 ≠ 0
/-- The base, as often as n. -/
def pw (n : Nat) : Int := (1000000000 : Int) ^ n
theorem pw_zero : pw 0 = 1 := rfl
theorem pw_succ (n : Nat) : pw (n + 1) = 1000000000 * pw n := by unfold pw; rw [Int.pow_succ, Int.mul_comm]
theorem pw_pos (n : Nat) : 0 < pw n := by
  induction n with
  | zero => rw [pw_zero]; omega
  | succ n ih => rw [pw_succ]; omega
theorem pw_add (a b : Nat) : pw (a + b) = pw a * pw b := by
  unfold pw; exact Int.pow_add _ _ _

theorem dig_nil : Dig [] := fun _i hi => absurd hi (Nat.not_lt_zero _)
theorem dig_cons {d : Int} {r : List Int} : Dig (d :: r) ↔ (0 ≤ d ∧ d < 1000000000) ∧ Dig r := by
  constructor
  · intro h
    exact ⟨by simpa using h 0 (by simp), fun i hi => by simpa using h (i + 1) (by simpa using hi)⟩
  · rintro ⟨h1, h2⟩ i hi
    cases i with
    | zero => simpa using h1
    | succ i => simpa using h2 i (by simpa using hi)
theorem dig_mem {l : List Int} : Dig l ↔ ∀ d ∈ l, 0 ≤ d ∧ d < 1000000000 := by
  induction l with
  | nil => exact ⟨fun _ d hd => (by cases hd), fun _ => dig_nil⟩
  | cons d r ih => rw [dig_cons, ih]; simp
theorem dig_append {a b : List Int} : Dig (a ++ b) ↔ Dig a ∧ Dig b := by
  rw [dig_mem, dig_mem, dig_mem]
  constructor
  · intro h; exact ⟨fun d hd => h d (by simp [hd]), fun d hd => h d (by simp [hd])⟩
  · rintro ⟨h1, h2⟩ d hd
    rcases List.mem_append.1 hd with h | h
    · exact h1 d h
    · exact h2 d h
theorem dig_take {a : List Int} (n : Nat) (h : Dig a) : Dig (a.take n) := by
  rw [dig_mem] at h ⊢; exact fun d hd => h d (List.mem_of_mem_take hd)
theorem dig_drop {a : List Int} (n : Nat) (h : Dig a) : Dig (a.drop n) := by
  rw [dig_mem] at h ⊢; exact fun d hd => h d (List.mem_of_mem_drop hd)

theorem val_append (a b : List Int) : val (a ++ b) = val a + pw a.length * val b := by
  induction a with
  | nil => simp [val, pw_zero]
  | cons d r ih =>
    simp only [List.cons_append, val, ih, List.length_cons, pw_succ]
    generalize pw r.length = p
    grind
theorem val_bd (l : List Int) (h : Dig l) : 0 ≤ val l ∧ val l < pw l.length := by
  induction l with
  | nil => simp [val, pw_zero]
  | cons d r ih =>
    obtain ⟨h1, h2⟩ := dig_cons.1 h
    have := ih h2
    simp only [val, List.length_cons, pw_succ]
    omega
theorem val_zeros (n : Nat) : val (List.replicate n 0) = 0 := by
  induction n with
  | zero => rfl
  | succ n ih => simp [List.replicate_succ, val, ih]
theorem val_drop (l : List Int) (k : Nat) (hk : k ≤ l.length) : val l = val (l.take k) + pw k * val (l.drop k) := by
  have := val_append (l.take k) (l.drop k)
  rw [List.take_append_drop, List.length_take, Nat.min_eq_left hk] at this
  exact this
theorem take_succ' (l : List Int) (k : Nat) (hk : k < l.length) : l.take (k + 1) = l.take k ++ [l[k]?.getD 0] := by
  rw [List.take_succ_eq_append_getElem hk, List.getElem?_eq_getElem hk, Option.getD_some]
theorem drop_cons' (l : List Int) (k : Nat) (hk : k < l.length) : l.drop k = (l[k]?.getD 0) :: l.drop (k + 1) := by
  rw [List.drop_eq_getElem_cons hk, List.getElem?_eq_getElem hk, Option.getD_some]
theorem val_take_succ (l : List Int) (k : Nat) (hk : k < l.length) : val (l.take (k + 1)) = val (l.take k) + pw k * (l[k]?.getD 0) := by
  rw [take_succ' l k hk, val_append, List.length_take, Nat.min_eq_left (by omega)]
  simp [val]
/-- A number of so many digits, the highest one not 0. -/
theorem val_lo (l : List Int) (h : Dig l) (ht : Trm l) (hn : l ≠ []) : pw (l.length - 1) ≤ val l := by
  have hl : 0 < l.length := List.length_pos_iff.2 hn
  rcases ht with ht | ht
  · exact absurd ht hn
  have h1 := val_drop l (l.length - 1) (by omega)
  rw [drop_cons' l (l.length - 1) (by omega), List.drop_eq_nil_of_le (by omega)] at h1
  have h2 := val_bd _ (dig_take (l.length - 1) h)
  have h3 := h (l.length - 1) (by omega)
  generalize l[l.length - 1]?.getD 0 = d at *
  simp only [val] at h1
  have h4 : pw (l.length - 1) * 1 ≤ pw (l.length - 1) * d := Int.mul_le_mul_of_nonneg_left (by omega) (Int.le_of_lt (pw_pos _))
  rw [Int.mul_zero, Int.add_zero] at h1
  omega
theorem val_zero (l : List Int) (h : Dig l) (ht : Trm l) : val l = 0 ↔ l = [] := by
  constructor
  · intro h0
    by_cases hn : l = []
    · exact hn
    · have := val_lo l h ht hn
      have := pw_pos (l.length - 1)
      omega
  · rintro rfl; rfl
theorem pw_mono {a b : Nat} (h : a ≤ b) : pw a ≤ pw b := by
  obtain ⟨c, rfl⟩ := Nat.exists_eq_add_of_le h
  rw [pw_add]
  have := Int.mul_le_mul_of_nonneg_left (show 1 ≤ pw c by have := pw_pos c; omega) (Int.le_of_lt (pw_pos a))
  omega
/-- How many digits a number has. -/
theorem len_le (l : List Int) (h : Dig l) (ht : Trm l) (n : Nat) (hv : val l < pw n) : l.length ≤ n := by
  by_cases hn : l = []
  · subst hn; simp
  · have := val_lo l h ht hn
    have hl : 0 < l.length := List.length_pos_iff.2 hn
    by_cases hle : l.length ≤ n
    · exact hle
    · have := pw_mono (a := n) (b := l.length - 1) (by omega)
      omega
theorem len_lt (a b : List Int) (ha : Dig a) (hb : Dig b) (tb : Trm b) (h : a.length < b.length) : val a < val b := by
  have h1 := val_bd a ha
  have h2 := val_lo b hb tb (by intro e; subst e; simp at h)
  have := pw_mono (a := a.length) (b := b.length - 1) (by omega)
  omega

/-- The same number, with k digits left of l, where all behind them are 0. -/
theorem val_trim (l : List Int) (k : Nat) (hk : k ≤ l.length) (h : ∀ i, k ≤ i → i < l.length → l[i]?.getD 0 = 0) : val (l.take k) = val l := by
  rw [val_drop l k hk]
  have e : l.drop k = List.replicate (l.length - k) 0 := by
    apply List.ext_getElem (by simp)
    intro i h1 h2
    simp only [List.getElem_drop, List.getElem_replicate]
    have := h (k + i) (by omega) (by simp at h1; omega)
    rw [List.getElem?_eq_getElem (by simp at h1; omega), Option.getD_some] at this
    exact this
  rw [e, val_zeros, Int.mul_zero, Int.add_zero]
/-- Only zeros from k on, and none just before it. -/
def Cut (xs : List Int) (k : Nat) : Prop := k ≤ xs.length ∧ (∀ i, k ≤ i → i < xs.length → xs[i]?.getD 0 = 0) ∧ (k = 0 ∨ xs[k - 1]?.getD 0 ≠ 0)
theorem cut_val {xs : List Int} {k : Nat} (h : Cut xs k) : val (xs.take k) = val xs := val_trim xs k h.1 h.2.1
theorem cut_trm {xs : List Int} {k : Nat} (h : Cut xs k) : Trm (xs.take k) := by
  obtain ⟨h1, _, h3⟩ := h
  rcases h3 with rfl | h3
  · exact Or.inl (by simp)
  · by_cases hk : k = 0
    · subst hk; exact Or.inl (by simp)
    · right
      rw [List.length_take, Nat.min_eq_left h1, List.getElem?_take, if_pos (by omega)]
      exact h3
theorem getD_of_le (l : List Int) (k : Nat) (h : l.length ≤ k) : l[k]?.getD 0 = 0 := by rw [List.getElem?_eq_none h]; rfl
theorem val_take_next (l : List Int) (k : Nat) : val (l.take (k + 1)) = val (l.take k) + pw k * (l[k]?.getD 0) := by
  by_cases hk : k < l.length
  · exact val_take_succ l k hk
  · rw [getD_of_le l k (by omega), List.take_of_length_le (by omega), List.take_of_length_le (by omega), Int.mul_zero, Int.add_zero]
theorem dig_at {l : List Int} (h : Dig l) (k : Nat) : 0 ≤ l[k]?.getD 0 ∧ l[k]?.getD 0 < 1000000000 := by
  by_cases hk : k < l.length
  · exact h k hk
  · rw [getD_of_le l k (by omega)]; omega
theorem dig_snoc {l : List Int} {d : Int} (h : Dig l) (h0 : 0 ≤ d) (h1 : d < 1000000000) : Dig (l ++ [d]) :=
  dig_append.2 ⟨h, dig_cons.2 ⟨⟨h0, h1⟩, dig_nil⟩⟩
theorem val_snoc (l : List Int) (d : Int) : val (l ++ [d]) = val l + pw l.length * d := by
  rw [val_append]; simp [val]
/-- Equal above place i, and less at it. -/
theorem val_less {xs ys : List Int} (dx : Dig xs) (dy : Dig ys) (hl : xs.length = ys.length) (i : Nat) (hi : i < xs.length) (h : xs.drop (i + 1) = ys.drop (i + 1)) (hlt : xs[i]?.getD 0 < ys[i]?.getD 0) : val xs < val ys := by
  have e1 := val_drop xs i (by omega)
  have e2 := val_drop ys i (by omega)
  rw [drop_cons' xs i hi] at e1
  rw [drop_cons' ys i (by omega)] at e2
  rw [h] at e1
  simp only [val] at e1 e2
  have b1 := val_bd _ (dig_take i dx)
  have b2 := val_bd _ (dig_take i dy)
  rw [List.length_take, Nat.min_eq_left (by omega)] at b1 b2
  generalize val (ys.drop (i + 1)) = t at *
  generalize xs[i]?.getD 0 = p at *
  generalize ys[i]?.getD 0 = q at *
  have e3 : pw i * (q + 1000000000 * t) - pw i * (p + 1000000000 * t) = pw i * (q - p) := by grind
  have e4 := Int.mul_le_mul_of_nonneg_left (show 1 ≤ q - p by omega) (Int.le_of_lt (pw_pos i))
  omega
/-- What 'order' says. -/
def cmpV (a b : Int) : Int := if a < b then -1 else if b < a then 1 else 0
theorem cmpV_lt {a b : Int} (h : a < b) : cmpV a b = -1 := if_pos h
theorem cmpV_gt {a b : Int} (h : b < a) : cmpV a b = 1 := by unfold cmpV; rw [if_neg (by omega), if_pos h]
theorem cmpV_eq (a : Int) : cmpV a a = 0 := by unfold cmpV; rw [if_neg (by omega), if_neg (by omega)]
theorem val_set (l : List Int) (j : Nat) (n : Int) (hj : j < l.length) : val (l.set j n) = val l + pw j * (n - l[j]?.getD 0) := by
  have e1 := val_drop l j (by omega)
  have e2 := val_drop (l.set j n) j (by simp; omega)
  rw [drop_cons' l j hj] at e1
  rw [drop_cons' _ j (by simpa using hj)] at e2
  rw [List.take_set_of_le (Nat.le_refl _), List.drop_set_of_lt (by omega), List.getElem?_set_self hj, Option.getD_some] at e2
  simp only [val] at e1 e2
  rw [e1, e2]
  generalize val (l.drop (j + 1)) = t
  generalize l[j]?.getD 0 = p
  grind
theorem dig_set {l : List Int} (h : Dig l) (j : Nat) (n : Int) (h0 : 0 ≤ n) (h1 : n < 1000000000) : Dig (l.set j n) := by
  rw [dig_mem] at h ⊢
  intro d hd
  rcases List.mem_or_eq_of_mem_set hd with h2 | h2
  · exact h d h2
  · subst h2; exact ⟨h0, h1⟩
/-- A number that is small has zeros above. -/
theorem zeros_above {l : List Int} (h : Dig l) (m : Nat) (hv : val l < pw m) (j : Nat) (hj : m ≤ j) : l[j]?.getD 0 = 0 := by
  by_cases hl : j < l.length
  · have e1 := val_drop l j (by omega)
    rw [drop_cons' l j hl] at e1
    have b1 := val_bd _ (dig_take j h)
    have b2 := h j hl
    have b3 := val_bd _ (dig_drop (j + 1) h)
    have b4 := pw_mono hj
    simp only [val] at e1
    generalize l[j]?.getD 0 = p at *
    by_cases hp : p = 0
    · exact hp
    · have := Int.mul_le_mul_of_nonneg_left (show 1 ≤ p + 1000000000 * val (l.drop (j + 1)) by omega) (Int.le_of_lt (pw_pos j))
      omega
  · exact getD_of_le l j (by omega)
end Go.Proofs.Ytdienaigmkaheaa
