/- Numbers, and numbers with digits behind a full stop, as lists of bytes: what is read comes back as it was written. -/
import Derived.Lib.ItoaNum
import Derived.Lib.IndexMore
import Derived.Lib.TrimByte
namespace Go.Proofs.YtkllhockcnokeaaDoor
open Go.Lib

/-! Cut at one byte. -/
def cut1 (c : UInt8) : List UInt8 → List UInt8 × List UInt8 × Bool
  | [] => ([], [], false)
  | b :: r => if b = c then ([], r, true) else (b :: (cut1 c r).1, (cut1 c r).2.1, (cut1 c r).2.2)
theorem cut_one (c : UInt8) (l : List UInt8) : Lib.cut l [c] = cut1 c l := by
  induction l with
  | nil => rfl
  | cons b r ih =>
    have hge := index_ge r [c]
    unfold Lib.cut at ih ⊢
    unfold cut1
    by_cases h : b = c
    · subst h
      have e : index (b :: r) [b] = 0 := by unfold index; simp
      rw [e]
      simp
    · have e : index (b :: r) [c] = if index r [c] == -1 then -1 else index r [c] + 1 := by
        conv => lhs; unfold index
        have : ([c].isPrefixOf (b :: r)) = false := by simp [List.isPrefixOf]; exact fun hh => h hh.symm
        rw [this]; simp
      rw [if_neg h, ← ih, e]
      by_cases h2 : index r [c] = -1
      · rw [h2]; simp
      · have h3 : (index r [c] == -1) = false := by simpa using h2
        have h4 : 0 ≤ index r [c] := by omega
        rw [h3, if_pos h4]
        have h5 : (index r [c] + 1).toNat = (index r [c]).toNat + 1 := by omega
        simp [h5, show (0 : Int) ≤ index r [c] + 1 by omega]
theorem cut1_no {c : UInt8} {l : List UInt8} (h : c ∉ l) : cut1 c l = (l, [], false) := by
  induction l with
  | nil => rfl
  | cons b r ih =>
    unfold cut1
    rw [if_neg (fun hh => h (by simp [hh])), ih (fun hh => h (by simp [hh]))]
theorem cut1_at {c : UInt8} {l r : List UInt8} (h : c ∉ l) : cut1 c (l ++ c :: r) = (l, r, true) := by
  induction l with
  | nil => simp [cut1]
  | cons b t ih =>
    show cut1 c (b :: (t ++ c :: r)) = _
    unfold cut1
    rw [if_neg (fun hh => h (by simp [hh])), ih (fun hh => h (by simp [hh]))]
theorem cut1_spec (c : UInt8) (l : List UInt8) : (cut1 c l = (l, [], false) ∧ c ∉ l) ∨ ∃ a b, l = a ++ c :: b ∧ c ∉ a ∧ cut1 c l = (a, b, true) := by
  induction l with
  | nil => exact Or.inl ⟨rfl, by simp⟩
  | cons x r ih =>
    by_cases h : x = c
    · subst h
      exact Or.inr ⟨[], r, rfl, by simp, by simp [cut1]⟩
    · rcases ih with ⟨h1, h2⟩ | ⟨a, b, h1, h2, h3⟩
      · refine Or.inl ⟨?_, ?_⟩
        · unfold cut1; rw [if_neg h, h1]
        · simp [h2]; exact fun hh => h hh.symm
      · refine Or.inr ⟨x :: a, b, by simp [h1], ?_, ?_⟩
        · simp [h2]; exact fun hh => h hh.symm
        · unfold cut1; rw [if_neg h, h3]

/-! Digits. -/
def isDg (c : UInt8) : Bool := decide (48 ≤ (c.toNat : Int)) && decide ((c.toNat : Int) ≤ 57)
def dgs (l : List UInt8) : Bool := l.all isDg
def valF (a : Int) : List UInt8 → Int
  | [] => a
  | c :: r => valF (10 * a + ((c.toNat : Int) - 48)) r
def val (l : List UInt8) : Int := valF 0 l
theorem isDg_iff {c : UInt8} : isDg c = true ↔ 48 ≤ (c.toNat : Int) ∧ (c.toNat : Int) ≤ 57 := by unfold isDg; simp
theorem dgs_nil : dgs [] = true := rfl
theorem dgs_cons {c : UInt8} {l : List UInt8} : dgs (c :: l) = true ↔ isDg c = true ∧ dgs l = true := by unfold dgs; simp
theorem dgs_app {l m : List UInt8} : dgs (l ++ m) = true ↔ dgs l = true ∧ dgs m = true := by unfold dgs; simp
theorem valF_app (a : Int) (l m : List UInt8) : valF a (l ++ m) = valF (valF a l) m := by
  induction l generalizing a with
  | nil => rfl
  | cons c r ih => exact ih _
theorem valF_snoc (a : Int) (l : List UInt8) (c : UInt8) : valF a (l ++ [c]) = 10 * valF a l + ((c.toNat : Int) - 48) := by rw [valF_app]; rfl
theorem valF_bd {a : Int} {l : List UInt8} (h : dgs l = true) (h0 : 0 ≤ a) : a * 10 ^ l.length ≤ valF a l ∧ valF a l < (a + 1) * 10 ^ l.length := by
  induction l generalizing a with
  | nil => simp [valF]; omega
  | cons c r ih =>
    obtain ⟨h1, h2⟩ := dgs_cons.1 h
    have h1 := isDg_iff.1 h1
    have := ih (a := 10 * a + ((c.toNat : Int) - 48)) h2 (by omega)
    obtain ⟨e1, e2⟩ := this
    have hp : (0 : Int) ≤ 10 ^ r.length := Int.le_of_lt (Int.pow_pos (by decide))
    show _ ≤ valF (10 * a + ((c.toNat : Int) - 48)) r ∧ valF (10 * a + ((c.toNat : Int) - 48)) r < _
    simp only [List.length_cons, Int.pow_succ]
    constructor
    · refine Int.le_trans ?_ e1
      have : a * (10 ^ r.length * 10) = (10 * a) * 10 ^ r.length := by rw [Int.mul_comm (10 ^ r.length) 10, ← Int.mul_assoc, Int.mul_comm a 10]
      rw [this]
      exact Int.mul_le_mul_of_nonneg_right (by omega) hp
    · refine Int.lt_of_lt_of_le e2 ?_
      have : (a + 1) * (10 ^ r.length * 10) = (10 * (a + 1)) * 10 ^ r.length := by rw [Int.mul_comm (10 ^ r.length) 10, ← Int.mul_assoc, Int.mul_comm (a + 1) 10]
      rw [this]
      exact Int.mul_le_mul_of_nonneg_right (by omega) hp
theorem val_bd {l : List UInt8} (h : dgs l = true) : 0 ≤ val l ∧ val l < 10 ^ l.length := by
  have := valF_bd (a := 0) h (by decide)
  simpa [val] using this
theorem pow10_mono {a b : Nat} (h : a ≤ b) : (10 : Int) ^ a ≤ 10 ^ b := by
  have : (10 : Nat) ^ a ≤ 10 ^ b := Nat.pow_le_pow_right (by decide) h
  exact_mod_cast this
theorem val_take_bd {l : List UInt8} (h : dgs l = true) (k : Nat) (hk : k ≤ 9) : 0 ≤ val (l.take k) ∧ val (l.take k) < 1000000000 := by
  have h1 : dgs (l.take k) = true := by
    have := h
    rw [← List.take_append_drop k l] at this
    exact (dgs_app.1 this).1
  obtain ⟨a, b⟩ := val_bd h1
  refine ⟨a, Int.lt_of_lt_of_le b ?_⟩
  have := pow10_mono (a := (l.take k).length) (b := 9) (by have := List.length_take_le k l; omega)
  simpa using this

/-! The decimal numeral. -/
theorem ofNat_toNat_48 {k : Nat} (h : k < 10) : ((UInt8.ofNat (48 + k)).toNat : Int) = 48 + k := by
  rw [UInt8.toNat_ofNat']; omega
theorem dd_small {u : Nat} (h : u < 10) : decDigits u = [UInt8.ofNat (48 + u)] := by rw [decDigits, dif_pos h]
theorem dd_big {u : Nat} (h : ¬ u < 10) : decDigits u = decDigits (u / 10) ++ [UInt8.ofNat (48 + u % 10)] := by rw [decDigits, dif_neg h]
theorem dd_dgs (u : Nat) : dgs (decDigits u) = true := by
  induction u using Nat.strongRecOn with
  | _ u ih =>
    by_cases h : u < 10
    · rw [dd_small h]
      refine dgs_cons.2 ⟨isDg_iff.2 ?_, rfl⟩
      rw [ofNat_toNat_48 h]; omega
    · rw [dd_big h]
      refine dgs_app.2 ⟨ih _ (by omega), dgs_cons.2 ⟨isDg_iff.2 ?_, rfl⟩⟩
      rw [ofNat_toNat_48 (by omega)]; omega
theorem dd_val (u : Nat) : val (decDigits u) = u := by
  induction u using Nat.strongRecOn with
  | _ u ih =>
    by_cases h : u < 10
    · rw [dd_small h]
      show 10 * 0 + (((UInt8.ofNat (48 + u)).toNat : Int) - 48) = u
      rw [ofNat_toNat_48 h]; omega
    · rw [dd_big h]
      unfold val
      rw [valF_snoc, ofNat_toNat_48 (by omega)]
      have := ih (u / 10) (by omega)
      unfold val at this
      rw [this]; omega
theorem dd_ne (u : Nat) : decDigits u ≠ [] := by
  intro h
  have := decDigits_length u
  rw [h] at this
  have := nDigits_pos u
  simp at *; omega
theorem nDigits_lt {u k : Nat} (hk : 1 ≤ k) (h : u < 10 ^ k) : nDigits u ≤ k := by
  induction k generalizing u with
  | zero => omega
  | succ k ih =>
    by_cases h1 : u < 10
    · rw [nDigits_small h1]; omega
    · rw [nDigits_big h1]
      rw [Nat.pow_succ] at h
      by_cases hk0 : k = 0
      · subst hk0; simp at h; omega
      · have := ih (u := u / 10) (by omega) (by omega)
        omega
theorem dd_head {u : Nat} (h : 0 < u) : ∃ c t, decDigits u = c :: t ∧ c ≠ 48 := by
  induction u using Nat.strongRecOn with
  | _ u ih =>
    by_cases h1 : u < 10
    · refine ⟨_, [], dd_small h1, fun hh => ?_⟩
      have := ofNat_toNat_48 h1
      rw [hh] at this
      have h48 : ((48 : UInt8).toNat : Int) = 48 := rfl
      omega
    · obtain ⟨c, t, h2, h3⟩ := ih (u / 10) (by omega) (by omega)
      exact ⟨c, t ++ [UInt8.ofNat (48 + u % 10)], by rw [dd_big h1, h2]; rfl, h3⟩

/-- A number of at most so many digits, without a needless 0. -/
def numOk (most : Nat) (l : List UInt8) : Bool := !l.isEmpty && decide (l.length ≤ most) && dgs l && (l.head? != some 48 || l == [48])
theorem numOk_iff {most : Nat} {l : List UInt8} : numOk most l = true ↔ l ≠ [] ∧ l.length ≤ most ∧ dgs l = true ∧ (l.head? ≠ some 48 ∨ l = [48]) := by
  unfold numOk
  simp [and_assoc]
theorem dd_numOk {u most : Nat} (hm : 1 ≤ most) (h : u < 10 ^ most) : numOk most (decDigits u) = true := by
  refine numOk_iff.2 ⟨dd_ne u, ?_, dd_dgs u, ?_⟩
  · rw [decDigits_length]; exact nDigits_lt hm h
  · by_cases h0 : u = 0
    · subst h0; exact Or.inr (by rw [dd_small (by decide)]; rfl)
    · obtain ⟨c, t, h1, h2⟩ := dd_head (u := u) (by omega)
      exact Or.inl (by rw [h1]; simpa using h2)
theorem lead_val {l : List UInt8} (h : dgs l = true) (hne : l ≠ []) (hh : l.head? ≠ some 48) : 1 ≤ val l := by
  cases l with
  | nil => exact absurd rfl hne
  | cons c r =>
    obtain ⟨h1, h2⟩ := dgs_cons.1 h
    have h1 := isDg_iff.1 h1
    have hc : (c.toNat : Int) ≠ 48 := fun e => hh (by simp; exact UInt8.toNat_inj.1 (by simpa using (by omega : c.toNat = 48)))
    have := (valF_bd (a := 10 * 0 + ((c.toNat : Int) - 48)) h2 (by omega)).1
    have hp : (1 : Int) ≤ 10 ^ r.length := Int.pow_pos (by decide)
    have h3 : 1 * 1 ≤ (10 * 0 + ((c.toNat : Int) - 48)) * 10 ^ r.length := Int.mul_le_mul (by omega) hp (by decide) (by omega)
    exact Int.le_trans (by omega) this
theorem ofNat_of {c : UInt8} {k : Nat} (h : (c.toNat : Int) = 48 + k) (hk : k < 10) : c = UInt8.ofNat (48 + k) := by
  apply UInt8.toNat_inj.1
  have := ofNat_toNat_48 hk
  omega
theorem num_back (l : List UInt8) : dgs l = true → l ≠ [] → (l.head? ≠ some 48 ∨ l = [48]) → l = decDigits (val l).toNat := by
  generalize hn : l.length = n
  induction n generalizing l with
  | zero => intro _ h; exact absurd (List.eq_nil_of_length_eq_zero hn) h
  | succ n ih =>
    intro hd hne hh
    obtain ⟨m, c, rfl⟩ : ∃ m c, l = m ++ [c] := ⟨l.dropLast, l.getLast hne, (List.dropLast_concat_getLast hne).symm⟩
    obtain ⟨d1, d2⟩ := dgs_app.1 hd
    have d2 := isDg_iff.1 (dgs_cons.1 d2).1
    have hv : val (m ++ [c]) = 10 * val m + ((c.toNat : Int) - 48) := valF_snoc 0 m c
    cases m with
    | nil =>
      have e0 : val ([] : List UInt8) = 0 := rfl
      rw [hv, e0, dd_small (by omega)]
      exact congrArg (fun x => [x]) (ofNat_of (c := c) (k := (10 * 0 + ((c.toNat : Int) - 48)).toNat) (by omega) (by omega))
    | cons x t =>
      have hx : (x :: t).head? ≠ some 48 := by
        rcases hh with hh | hh
        · simpa using hh
        · simp at hh
      have h1 := lead_val d1 (by simp) hx
      have hm := ih (x :: t) (by simp at hn ⊢; omega) d1 (by simp) (Or.inl hx)
      rw [hv]
      have hbig : ¬ (10 * val (x :: t) + ((c.toNat : Int) - 48)).toNat < 10 := by omega
      rw [dd_big hbig]
      have e1 : (10 * val (x :: t) + ((c.toNat : Int) - 48)).toNat / 10 = (val (x :: t)).toNat := by omega
      have e2 : (10 * val (x :: t) + ((c.toNat : Int) - 48)).toNat % 10 = ((c.toNat : Int) - 48).toNat := by omega
      rw [e1, e2, ← hm]
      exact congrArg (fun y => x :: t ++ [y]) (ofNat_of (c := c) (k := ((c.toNat : Int) - 48).toNat) (by omega) (by omega))
theorem numOk_back {most : Nat} {l : List UInt8} (h : numOk most l = true) : l = decDigits (val l).toNat := by
  obtain ⟨h1, _, h3, h4⟩ := numOk_iff.1 h
  exact num_back l h3 h1 h4
theorem numOk_bd {most : Nat} {l : List UInt8} (h : numOk most l = true) : 0 ≤ val l ∧ val l < 10 ^ most := by
  obtain ⟨h1, h2, h3, h4⟩ := numOk_iff.1 h
  obtain ⟨a, b⟩ := val_bd h3
  exact ⟨a, Int.lt_of_lt_of_le b (pow10_mono h2)⟩
end Go.Proofs.YtkllhockcnokeaaDoor
