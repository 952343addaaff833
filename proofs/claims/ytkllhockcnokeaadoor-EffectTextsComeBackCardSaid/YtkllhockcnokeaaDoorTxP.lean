/- Numbers with digits behind a full stop, in units of their last place: read and written. -/
import Derived.Test.YtkllhockcnokeaaDoorTxM
namespace Go.Proofs.YtkllhockcnokeaaDoor
open Go.Lib

def padD : Nat → Nat → List UInt8
  | 0, _ => []
  | p + 1, r => padD p (r / 10) ++ [UInt8.ofNat (48 + r % 10)]
theorem padD_len (p r : Nat) : (padD p r).length = p := by
  induction p generalizing r with
  | zero => rfl
  | succ p ih => simp [padD, ih]
theorem padD_dgs (p r : Nat) : dgs (padD p r) = true := by
  induction p generalizing r with
  | zero => rfl
  | succ p ih =>
    refine dgs_app.2 ⟨ih _, dgs_cons.2 ⟨isDg_iff.2 ?_, rfl⟩⟩
    rw [ofNat_toNat_48 (by omega)]; omega
theorem dd_pad (p r : Nat) (h : r < 10 ^ p) : decDigits (10 ^ p + r) = 49 :: padD p r := by
  induction p generalizing r with
  | zero =>
    have : r = 0 := by simpa using h
    subst this
    rw [dd_small (by decide)]; rfl
  | succ p ih =>
    have hp : 1 ≤ 10 ^ p := Nat.one_le_pow _ _ (by decide)
    rw [Nat.pow_succ] at h ⊢
    rw [dd_big (by omega), show (10 ^ p * 10 + r) / 10 = 10 ^ p + r / 10 by omega, show (10 ^ p * 10 + r) % 10 = r % 10 by omega, ih (r / 10) (by omega)]
    rfl
theorem padD_val (a : Int) (p r : Nat) (h : r < 10 ^ p) : valF a (padD p r) = a * 10 ^ p + r := by
  induction p generalizing r with
  | zero =>
    have : r = 0 := by simpa using h
    subst this
    simp [padD, valF]
  | succ p ih =>
    rw [Nat.pow_succ] at h
    show valF a (padD p (r / 10) ++ [_]) = _
    rw [valF_snoc, ih (r / 10) (by omega), ofNat_toNat_48 (by omega), Int.pow_succ, ← Int.mul_assoc]
    omega
theorem pad_back (b : List UInt8) (h : dgs b = true) : b = padD b.length (val b).toNat := by
  generalize hn : b.length = n
  induction n generalizing b with
  | zero => rw [List.eq_nil_of_length_eq_zero hn]; rfl
  | succ n ih =>
    have hne : b ≠ [] := fun e => by rw [e] at hn; simp at hn
    obtain ⟨m, c, rfl⟩ : ∃ m c, b = m ++ [c] := ⟨b.dropLast, b.getLast hne, (List.dropLast_concat_getLast hne).symm⟩
    obtain ⟨d1, d2⟩ := dgs_app.1 h
    have d2 := isDg_iff.1 (dgs_cons.1 d2).1
    have hv : val (m ++ [c]) = 10 * val m + ((c.toNat : Int) - 48) := valF_snoc 0 m c
    have h0 := (val_bd d1).1
    have hm := ih m d1 (by simpa using hn)
    rw [hv]
    show m ++ [c] = padD n _ ++ [_]
    rw [show (10 * val m + ((c.toNat : Int) - 48)).toNat / 10 = (val m).toNat by omega, show (10 * val m + ((c.toNat : Int) - 48)).toNat % 10 = ((c.toNat : Int) - 48).toNat by omega, ← hm]
    exact congrArg (fun y => m ++ [y]) (ofNat_of (c := c) (k := ((c.toNat : Int) - 48).toNat) (by omega) (by omega))

/-! Zeros at the end. -/
theorem trim_zeros (b : List UInt8) (k : Nat) (h : b.getLast? ≠ some 48) : trimRightB (b ++ List.replicate k 48) 48 = b := by
  unfold trimRightB
  have e : ∀ (k : Nat) (l : List UInt8), (List.replicate k 48 ++ l).dropWhile (· == 48) = l.dropWhile (· == 48) := by
    intro k l
    induction k with
    | zero => rfl
    | succ k ih => rw [List.replicate_succ]; simp [ih]
  rw [List.reverse_append, List.reverse_replicate, e]
  have e2 : b.reverse.dropWhile (· == 48) = b.reverse := by
    cases hb : b.reverse with
    | nil => rfl
    | cons x t =>
      rw [List.dropWhile_cons, if_neg]
      intro hx
      have : b = t.reverse ++ [x] := by rw [← List.reverse_reverse b, hb]; simp
      rw [this] at h
      simp at h
      exact h (by simpa using hx)
  rw [e2, List.reverse_reverse]
theorem trim_split (l : List UInt8) : ∃ k, l = trimRightB l 48 ++ List.replicate k 48 ∧ (trimRightB l 48).getLast? ≠ some 48 := by
  generalize hn : l.length = n
  induction n generalizing l with
  | zero =>
    rw [List.eq_nil_of_length_eq_zero hn]
    exact ⟨0, rfl, by simp [trimRightB]⟩
  | succ n ih =>
    have hne : l ≠ [] := fun e => by rw [e] at hn; simp at hn
    obtain ⟨m, c, rfl⟩ : ∃ m c, l = m ++ [c] := ⟨l.dropLast, l.getLast hne, (List.dropLast_concat_getLast hne).symm⟩
    by_cases hc : c = 48
    · subst hc
      obtain ⟨k, h1, h2⟩ := ih m (by simpa using hn)
      have e : trimRightB (m ++ [48]) 48 = trimRightB m 48 := by unfold trimRightB; simp
      refine ⟨k + 1, ?_, by rw [e]; exact h2⟩
      rw [e, List.replicate_succ', ← List.append_assoc, ← h1]
    · have e : trimRightB (m ++ [c]) 48 = m ++ [c] := by unfold trimRightB; simp [hc]
      exact ⟨0, by rw [e]; simp, by rw [e]; simpa using hc⟩

/-! Parts. -/
def behindOk (p : Nat) (b : List UInt8) : Bool := !b.isEmpty && decide (b.length ≤ p) && dgs b && (b.getLast? != some 48)
theorem behindOk_iff {p : Nat} {b : List UInt8} : behindOk p b = true ↔ b ≠ [] ∧ b.length ≤ p ∧ dgs b = true ∧ b.getLast? ≠ some 48 := by
  unfold behindOk
  simp [and_assoc]
def fullD (p : Nat) (b : List UInt8) : List UInt8 := b ++ List.replicate (p - b.length) 48
theorem zeros_dgs (k : Nat) : dgs (List.replicate k 48) = true := by
  induction k with
  | zero => rfl
  | succ k ih => rw [List.replicate_succ]; exact dgs_cons.2 ⟨rfl, ih⟩
theorem fullD_dgs {p : Nat} {b : List UInt8} (h : dgs b = true) : dgs (fullD p b) = true := dgs_app.2 ⟨h, zeros_dgs _⟩
theorem fullD_len {p : Nat} {b : List UInt8} (h : b.length ≤ p) : (fullD p b).length = p := by unfold fullD; simp; omega
def partsOk (most p : Nat) (l : List UInt8) : Bool := numOk most (cut1 46 l).1 && (!(cut1 46 l).2.2 || behindOk p (cut1 46 l).2.1)
def partsV (p : Nat) (l : List UInt8) : Int := valF (val (cut1 46 l).1) (fullD p (cut1 46 l).2.1)
def showD (p n : Nat) : List UInt8 := decDigits (n / 10 ^ p) ++ if n % 10 ^ p = 0 then [] else 46 :: trimRightB (padD p (n % 10 ^ p)) 48
theorem dgs_no {l : List UInt8} (h : dgs l = true) {c : UInt8} (hc : isDg c = false) : c ∉ l := by
  intro hm
  unfold dgs at h
  have := List.all_eq_true.1 h c hm
  rw [hc] at this; cases this
theorem replicate_pad (p : Nat) : padD p 0 = List.replicate p 48 := by
  induction p with
  | zero => rfl
  | succ p ih =>
    show padD p (0 / 10) ++ [UInt8.ofNat (48 + 0 % 10)] = _
    rw [show (0 / 10 : Nat) = 0 from rfl, ih, List.replicate_succ']; rfl
theorem valF_full (a : Int) (b : List UInt8) (h : dgs b = true) : valF a b = a * 10 ^ b.length + val b := by
  have h1 := pad_back b h
  have hb := val_bd h
  have h2 : (val b).toNat < 10 ^ b.length := by
    have : ((val b).toNat : Int) < ((10 ^ b.length : Nat) : Int) := by
      rw [Int.toNat_of_nonneg hb.1]; exact_mod_cast hb.2
    exact_mod_cast this
  have := padD_val a b.length (val b).toNat h2
  rw [← h1] at this
  rw [this, Int.toNat_of_nonneg hb.1]
theorem trim_all_zero {b : List UInt8} (h : trimRightB b 48 = []) : b = List.replicate b.length 48 := by
  obtain ⟨k, h1, _⟩ := trim_split b
  rw [h, List.nil_append] at h1
  rw [h1]; simp
/-- What is written is read. -/
theorem show_read (most p n : Nat) (hm : 1 ≤ most) (hq : n / 10 ^ p < 10 ^ most) : partsOk most p (showD p n) = true ∧ partsV p (showD p n) = n := by
  have hp : 0 < 10 ^ p := Nat.pow_pos (by decide)
  have hn := Nat.div_add_mod n (10 ^ p)
  have hr : n % 10 ^ p < 10 ^ p := Nat.mod_lt _ hp
  have e46 := dgs_no (dd_dgs (n / 10 ^ p)) (c := 46) (by decide)
  unfold partsOk partsV showD
  by_cases h0 : n % 10 ^ p = 0
  · rw [if_pos h0, List.append_nil, cut1_no e46]
    refine ⟨by simp [dd_numOk hm hq], ?_⟩
    show valF (val (decDigits (n / 10 ^ p))) (fullD p []) = _
    rw [dd_val, valF_full _ _ (fullD_dgs rfl), fullD_len (Nat.zero_le _)]
    have : fullD p [] = padD p 0 := by rw [replicate_pad]; unfold fullD; simp
    rw [this]
    have := padD_val 0 p 0 hp
    unfold val
    rw [this]
    rw [h0] at hn
    have hn' : (n : Int) = 10 ^ p * (n / 10 ^ p : Nat) := by
      generalize n / 10 ^ p = q at hn
      rw [← hn]; push_cast; simp
    rw [Int.zero_mul, Int.zero_add, Int.natCast_zero, Int.add_zero, Int.mul_comm, ← hn']
  · rw [if_neg h0, cut1_at e46]
    obtain ⟨k, h1, h2⟩ := trim_split (padD p (n % 10 ^ p))
    generalize hb : trimRightB (padD p (n % 10 ^ p)) 48 = b at h1 h2
    have hlen : b.length + k = p := by
      have := congrArg List.length h1
      rw [padD_len] at this
      simp at this; omega
    have hd : dgs b = true := by
      have := padD_dgs p (n % 10 ^ p)
      rw [h1] at this
      exact (dgs_app.1 this).1
    have hne : b ≠ [] := by
      intro e
      rw [e] at hb
      have h3 := trim_all_zero hb
      rw [padD_len, ← replicate_pad] at h3
      have h4 := congrArg val h3
      unfold val at h4
      rw [padD_val 0 p _ hr, padD_val 0 p 0 hp] at h4
      omega
    have hf : fullD p b = padD p (n % 10 ^ p) := by
      rw [h1]; unfold fullD; rw [show p - b.length = k by omega]
    refine ⟨?_, ?_⟩
    · simp only [dd_numOk hm hq, Bool.true_and, Bool.not_true, Bool.false_or]
      exact behindOk_iff.2 ⟨hne, by omega, hd, h2⟩
    · show valF (val (decDigits (n / 10 ^ p))) (fullD p b) = _
      rw [hf, dd_val, padD_val _ p _ hr]
      have hn' : (n : Int) = 10 ^ p * (n / 10 ^ p : Nat) + (n % 10 ^ p : Nat) := by
        generalize n / 10 ^ p = q at hn
        generalize n % 10 ^ p = r at hn
        rw [← hn]; push_cast; rfl
      rw [Int.mul_comm, ← hn']
/-- What is read was written so. -/
theorem read_show {most p : Nat} {l : List UInt8} (h : partsOk most p l = true) : l = showD p (partsV p l).toNat ∧ 0 ≤ partsV p l ∧ val (cut1 46 l).1 * 10 ^ p ≤ partsV p l ∧ partsV p l < (val (cut1 46 l).1 + 1) * 10 ^ p := by
  have hp : 0 < 10 ^ p := Nat.pow_pos (by decide)
  unfold partsOk at h
  obtain ⟨h1, h2⟩ := Bool.and_eq_true_iff.1 h
  have hb := numOk_bd h1
  have hl := numOk_back h1
  unfold partsV
  rcases cut1_spec 46 l with ⟨hc, _⟩ | ⟨a, b, hab, hno, hc⟩
  · rw [hc] at h1 h2 hl hb ⊢
    have hf : fullD p [] = padD p 0 := by rw [replicate_pad]; unfold fullD; simp
    show l = showD p (valF (val l) (fullD p [])).toNat ∧ 0 ≤ valF (val l) (fullD p []) ∧ val l * 10 ^ p ≤ valF (val l) (fullD p []) ∧ valF (val l) (fullD p []) < (val l + 1) * 10 ^ p
    rw [hf, padD_val _ p 0 hp]
    have hb : 0 ≤ val l := hb.1
    have hl : l = decDigits (val l).toNat := hl
    have hpI : (0 : Int) < 10 ^ p := Int.pow_pos (by decide)
    have hnn : 0 ≤ val l * 10 ^ p := Int.mul_nonneg hb (Int.le_of_lt hpI)
    refine ⟨?_, by simpa using hnn, by simp, by rw [Int.add_mul, Int.one_mul]; omega⟩
    have e : (val l * 10 ^ p + ((0 : Nat) : Int)).toNat = (val l).toNat * 10 ^ p := by
      have : val l * 10 ^ p = (((val l).toNat * 10 ^ p : Nat) : Int) := by push_cast; rw [Int.toNat_of_nonneg hb]
      rw [this]; omega
    unfold showD
    rw [e, Nat.mul_mod_left, if_pos rfl, Nat.mul_div_cancel _ hp, List.append_nil]
    exact hl
  · rw [hc] at h1 h2 hl hb ⊢
    have h2 : behindOk p b = true := by simpa using h2
    obtain ⟨b1, b2, b3, b4⟩ := behindOk_iff.1 h2
    show l = showD p (valF (val a) (fullD p b)).toNat ∧ 0 ≤ valF (val a) (fullD p b) ∧ val a * 10 ^ p ≤ valF (val a) (fullD p b) ∧ valF (val a) (fullD p b) < (val a + 1) * 10 ^ p
    have hfd := fullD_dgs (p := p) b3
    have hfl := fullD_len b2
    have hfb := val_bd hfd
    rw [hfl] at hfb
    rw [valF_full _ _ hfd, hfl]
    have hb : 0 ≤ val a := hb.1
    have hl : a = decDigits (val a).toNat := hl
    have hpI : (0 : Int) < 10 ^ p := Int.pow_pos (by decide)
    have hnn : 0 ≤ val a * 10 ^ p := Int.mul_nonneg hb (Int.le_of_lt hpI)
    refine ⟨?_, by omega, by omega, by rw [Int.add_mul]; omega⟩
    have hrlt : (val (fullD p b)).toNat < 10 ^ p := by
      have : ((val (fullD p b)).toNat : Int) < ((10 ^ p : Nat) : Int) := by
        rw [Int.toNat_of_nonneg hfb.1]; exact_mod_cast hfb.2
      exact_mod_cast this
    have e : (val a * 10 ^ p + val (fullD p b)).toNat = (val a).toNat * 10 ^ p + (val (fullD p b)).toNat := by
      have : val a * 10 ^ p = (((val a).toNat * 10 ^ p : Nat) : Int) := by push_cast; rw [Int.toNat_of_nonneg hb]
      omega
    have e1 : ((val a).toNat * 10 ^ p + (val (fullD p b)).toNat) / 10 ^ p = (val a).toNat := by
      rw [Nat.mul_comm, Nat.mul_add_div hp, Nat.div_eq_of_lt hrlt]; rfl
    have e2 : ((val a).toNat * 10 ^ p + (val (fullD p b)).toNat) % 10 ^ p = (val (fullD p b)).toNat := by
      rw [Nat.mul_comm, Nat.mul_add_mod, Nat.mod_eq_of_lt hrlt]
    have hpb := pad_back (fullD p b) hfd
    rw [hfl] at hpb
    have ht : trimRightB (fullD p b) 48 = b := trim_zeros b _ b4
    have hne : (val (fullD p b)).toNat ≠ 0 := by
      intro h0
      rw [h0, replicate_pad] at hpb
      have : trimRightB (List.replicate p 48) 48 = [] := by
        have := trim_zeros [] p (by simp)
        simpa using this
      rw [hpb, this] at ht
      exact b1 ht.symm
    unfold showD
    rw [e, e1, e2, if_neg hne, ← hpb, ht, ← hl]
    exact hab
end Go.Proofs.YtkllhockcnokeaaDoor
