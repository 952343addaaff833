/- Digits of base 16: plain mathematics of texts, no program in it. -/
import Derived.Test.YtfamnaekelmkpaaGreatDoorBs
namespace Go.Proofs.YtfamnaekelmkpaaGreatDoor

/-- A digit of base 16. -/
def hxd (n : Nat) : UInt8 := if n < 10 then UInt8.ofNat (48 + n) else UInt8.ofNat (87 + n)
/-- The digits of a number of base 16, without a needless one ahead. -/
def hexOf (n : Nat) : List UInt8 := if n < 16 then [hxd n] else hexOf (n / 16) ++ [hxd (n % 16)]
termination_by n
decreasing_by omega
/-- So many digits of a number. -/
def hxs : Nat → Nat → List UInt8
  | 0, _ => []
  | k + 1, n => hxs k (n / 16) ++ [hxd (n % 16)]
theorem hxs_len : ∀ (k n : Nat), (hxs k n).length = k
  | 0, _ => rfl
  | k + 1, n => by unfold hxs; rw [List.length_append, hxs_len k]; rfl
theorem hexOf_small {n : Nat} (h : n < 16) : hexOf n = [hxd n] := by unfold hexOf; rw [if_pos h]
theorem hexOf_more {n : Nat} (h : ¬ n < 16) : hexOf n = hexOf (n / 16) ++ [hxd (n % 16)] := by rw [hexOf, if_neg h]
theorem hexOf_lead : ∀ (k r : Nat), r < 16 ^ k → hexOf (16 ^ k + r) = hxd 1 :: hxs k r
  | 0, r, h => by
    have : r = 0 := by simpa using h
    subst this; exact hexOf_small (by decide)
  | k + 1, r, h => by
    have hp : 0 < 16 ^ k := Nat.pow_pos (by decide)
    rw [Nat.pow_succ] at h ⊢
    rw [hexOf_more (by omega)]
    have e1 : (16 ^ k * 16 + r) / 16 = 16 ^ k + r / 16 := by omega
    have e2 : (16 ^ k * 16 + r) % 16 = r % 16 := by omega
    rw [e1, e2, hexOf_lead k (r / 16) (by omega)]
    rfl
theorem hxs_zero : ∀ k, hxs k 0 = List.replicate k 48
  | 0 => rfl
  | k + 1 => by
    show hxs k (0 / 16) ++ [hxd (0 % 16)] = _
    rw [Nat.zero_div, hxs_zero k, List.replicate_succ']; rfl
theorem hexOf_pad : ∀ (k n : Nat), n < 16 ^ (k + 1) → (hexOf n).length ≤ k + 1 ∧ List.replicate (k + 1 - (hexOf n).length) 48 ++ hexOf n = hxs (k + 1) n
  | 0, n, h => by
    have h : n < 16 := by simpa using h
    rw [hexOf_small h]
    refine ⟨Nat.le_refl _, ?_⟩
    show [hxd n] = [] ++ [hxd (n % 16)]
    rw [Nat.mod_eq_of_lt h]; rfl
  | k + 1, n, h => by
    by_cases hn : n < 16
    · rw [hexOf_small hn]
      refine ⟨by simp, ?_⟩
      show _ = hxs (k + 1) (n / 16) ++ [hxd (n % 16)]
      rw [Nat.div_eq_of_lt hn, Nat.mod_eq_of_lt hn, hxs_zero]; simp
    · rw [hexOf_more hn]
      obtain ⟨h1, h2⟩ := hexOf_pad k (n / 16) (by rw [Nat.pow_succ] at h; omega)
      refine ⟨by simp; omega, ?_⟩
      show _ = hxs (k + 1) (n / 16) ++ [hxd (n % 16)]
      rw [← h2, List.length_append, ← List.append_assoc]
      have : k + 1 + 1 - ((hexOf (n / 16)).length + [hxd (n % 16)].length) = k + 1 - (hexOf (n / 16)).length := by simp
      rw [this]
theorem hexOf_len {n k : Nat} (h : n < 16 ^ (k + 1)) : (hexOf n).length ≤ k + 1 := (hexOf_pad k n h).1
theorem hexOf_pos (n : Nat) : 1 ≤ (hexOf n).length := by
  rcases Nat.lt_or_ge n 16 with h | h
  · rw [hexOf_small h]; exact Nat.le_refl _
  · rw [hexOf_more (by omega), List.length_append]; simp

theorem pow16_le {k : Nat} (h : k ≤ 12) : 16 ^ k ≤ 281474976710656 := by
  have : (16 : Nat) ^ k ≤ 16 ^ 12 := Nat.pow_le_pow_right (by decide) h
  exact this

/-- What a digit is worth. -/
def hxv (c : UInt8) : Option Nat :=
  if 48 ≤ c.toNat ∧ c.toNat ≤ 57 then some (c.toNat - 48) else if 97 ≤ c.toNat ∧ c.toNat ≤ 102 then some (c.toNat - 87)
  else if 65 ≤ c.toNat ∧ c.toNat ≤ 70 then some (c.toNat - 55) else none
/-- What digits are worth behind a number. -/
def hexVal : Nat → List UInt8 → Option Nat
  | n, [] => some n
  | n, c :: l => match hxv c with
    | none => none
    | some d => hexVal (16 * n + d) l
theorem hxv_lt {c : UInt8} {d : Nat} (h : hxv c = some d) : d < 16 := by
  unfold hxv at h
  split at h
  · cases h; omega
  split at h
  · cases h; omega
  split at h
  · cases h; omega
  cases h
theorem hexVal_cons (n : Nat) (c : UInt8) (l : List UInt8) : hexVal n (c :: l) = match hxv c with | none => none | some d => hexVal (16 * n + d) l := rfl
theorem hexVal_app : ∀ (a b : List UInt8) (n : Nat), hexVal n (a ++ b) = (hexVal n a).bind (fun m => hexVal m b)
  | [], _, _ => rfl
  | c :: a, b, n => by
    rw [List.cons_append, hexVal_cons, hexVal_cons]
    cases hxv c with
    | none => rfl
    | some d => exact hexVal_app a b _
theorem hexVal_shift : ∀ (l : List UInt8) (n : Nat), hexVal n l = (hexVal 0 l).map (fun m => n * 16 ^ l.length + m)
  | [], n => by simp [hexVal]
  | c :: l, n => by
    rw [hexVal_cons, hexVal_cons]
    cases hxv c with
    | none => rfl
    | some d =>
      simp only
      rw [hexVal_shift l (16 * n + d), hexVal_shift l (16 * 0 + d)]
      cases hexVal 0 l with
      | none => rfl
      | some m =>
        simp only [Option.map_some, List.length_cons, Nat.pow_succ, Option.some.injEq]
        generalize 16 ^ l.length = p
        rw [Nat.add_mul, Nat.add_mul, Nat.mul_zero, Nat.zero_mul]
        have : n * (p * 16) = 16 * n * p := by rw [Nat.mul_comm p 16, ← Nat.mul_assoc, Nat.mul_comm n 16]
        omega
theorem hexVal_lt : ∀ (l : List UInt8) (n m : Nat), hexVal n l = some m → m < (n + 1) * 16 ^ l.length
  | [], n, m, h => by cases h; simp
  | c :: l, n, m, h => by
    unfold hexVal at h
    cases hd : hxv c with
    | none => rw [hd] at h; cases h
    | some d =>
      rw [hd] at h
      have h1 := hexVal_lt l _ _ h
      have h2 := hxv_lt hd
      refine Nat.lt_of_lt_of_le h1 ?_
      rw [List.length_cons, Nat.pow_succ, Nat.mul_comm (16 ^ l.length) 16, ← Nat.mul_assoc]
      exact Nat.mul_le_mul_right _ (by omega)
theorem hxv_hxd {n : Nat} (h : n < 16) : hxv (hxd n) = some n := by
  have : ∀ n, n < 16 → hxv (hxd n) = some n := by decide
  exact this n h
theorem hexVal_hxs : ∀ (k r n : Nat), r < 16 ^ k → hexVal n (hxs k r) = some (n * 16 ^ k + r)
  | 0, r, n, h => by
    have : r = 0 := by simpa using h
    subst this; simp [hxs, hexVal]
  | k + 1, r, n, h => by
    rw [Nat.pow_succ] at h ⊢
    show hexVal n (hxs k (r / 16) ++ [hxd (r % 16)]) = _
    rw [hexVal_app, hexVal_hxs k (r / 16) n (by omega)]
    show hexVal _ [hxd (r % 16)] = _
    unfold hexVal
    rw [hxv_hxd (Nat.mod_lt _ (by decide))]
    simp only [hexVal, Option.some.injEq]
    generalize 16 ^ k = p
    rw [← Nat.mul_assoc]
    generalize n * p = q
    omega

/-- The three numbers of so many digits each. -/
def hex3 (k u : Nat) (l : List UInt8) : Option (Nat × Nat × Nat) :=
  match hexVal 0 (l.take k), hexVal 0 ((l.drop k).take k), hexVal 0 (l.drop (2 * k)) with
  | some a, some b, some c => some (u * a, u * b, u * c)
  | _, _, _ => none
/-- The colour of a text. -/
def rdC (l : List UInt8) : Option (Nat × Nat × Nat) :=
  if l.headD 0 = 35 then if l.length = 7 then hex3 2 257 (l.drop 1) else if l.length = 13 then hex3 4 1 (l.drop 1) else none else none
/-- The text of a colour. -/
def shC (a b c : Nat) : List UInt8 :=
  if a % 257 = 0 ∧ b % 257 = 0 ∧ c % 257 = 0 then 35 :: (hxs 2 (a / 257) ++ hxs 2 (b / 257) ++ hxs 2 (c / 257)) else 35 :: (hxs 4 a ++ hxs 4 b ++ hxs 4 c)
theorem hex3_of {k u : Nat} {l : List UInt8} (h : l.length = 3 * k) : hex3 k u l =
    (hexVal 0 l).map (fun n => (u * (n / 16 ^ (2 * k) % 16 ^ k), u * (n / 16 ^ k % 16 ^ k), u * (n % 16 ^ k))) := by
  have e : l = l.take k ++ ((l.drop k).take k ++ l.drop (2 * k)) := by
    rw [show 2 * k = k + k by omega, ← List.drop_drop, List.take_append_drop, List.take_append_drop]
  have l1 : (l.take k).length = k := by rw [List.length_take]; omega
  have l2 : ((l.drop k).take k).length = k := by rw [List.length_take, List.length_drop]; omega
  have l3 : (l.drop (2 * k)).length = k := by rw [List.length_drop]; omega
  unfold hex3
  conv => rhs; rw [e]
  generalize l.take k = x at *
  generalize (l.drop k).take k = y at *
  generalize l.drop (2 * k) = z at *
  rw [hexVal_app]
  cases hx : hexVal 0 x with
  | none => rfl
  | some a =>
    simp only [Option.bind_some]
    rw [hexVal_app, hexVal_shift y (a), l2]
    cases hy : hexVal 0 y with
    | none => rfl
    | some b =>
      simp only [Option.map_some, Option.bind_some]
      rw [hexVal_shift z (a * 16 ^ k + b), l3]
      cases hz : hexVal 0 z with
      | none => rfl
      | some c =>
        have b1 := hexVal_lt x 0 a hx
        have b2 := hexVal_lt y 0 b hy
        have b3 := hexVal_lt z 0 c hz
        rw [l1] at b1; rw [l2] at b2; rw [l3] at b3
        simp only [Nat.zero_add, Nat.one_mul] at b1 b2 b3
        have hp : 0 < 16 ^ k := Nat.pow_pos (by decide)
        simp only [Option.map_some, Option.some.injEq]
        have e2 : 16 ^ (2 * k) = 16 ^ k * 16 ^ k := by rw [← Nat.pow_add]; congr 1; omega
        rw [e2, ← Nat.div_div_eq_div_mul]
        generalize 16 ^ k = p at *
        have d1 : ((a * p + b) * p + c) / p = a * p + b := by rw [Nat.mul_comm (a * p + b) p, Nat.mul_add_div hp, Nat.div_eq_of_lt b3]; rfl
        have d2 : (a * p + b) / p = a := by rw [Nat.mul_comm a p, Nat.mul_add_div hp, Nat.div_eq_of_lt b2]; rfl
        have m1 : ((a * p + b) * p + c) % p = c := by rw [Nat.mul_comm (a * p + b) p, Nat.mul_add_mod, Nat.mod_eq_of_lt b3]
        have m2 : (a * p + b) % p = b := by rw [Nat.mul_comm a p, Nat.mul_add_mod, Nat.mod_eq_of_lt b2]
        rw [d1, d2, m1, m2, Nat.mod_eq_of_lt b1]
theorem hex3_show {k u a b c : Nat} (ha : a < 16 ^ k) (hb : b < 16 ^ k) (hc : c < 16 ^ k) : hex3 k u (hxs k a ++ hxs k b ++ hxs k c) = some (u * a, u * b, u * c) := by
  unfold hex3
  have l1 := hxs_len k a
  have l2 := hxs_len k b
  have e1 : (hxs k a ++ hxs k b ++ hxs k c).take k = hxs k a := by rw [List.append_assoc, List.take_append_of_le_length (by omega), List.take_of_length_le (by omega)]
  have e2 : ((hxs k a ++ hxs k b ++ hxs k c).drop k).take k = hxs k b := by
    rw [List.append_assoc, List.drop_append_of_le_length (by omega), List.drop_of_length_le (by omega), List.nil_append, List.take_append_of_le_length (by omega), List.take_of_length_le (by omega)]
  have e3 : (hxs k a ++ hxs k b ++ hxs k c).drop (2 * k) = hxs k c := by
    rw [show 2 * k = (hxs k a ++ hxs k b).length by rw [List.length_append]; omega]; exact List.drop_left
  rw [e1, e2, e3, hexVal_hxs k a 0 ha, hexVal_hxs k b 0 hb, hexVal_hxs k c 0 hc]
  simp
/-- What Show writes, Read reads. -/
theorem rdC_shC {a b c : Nat} (ha : a < 65536) (hb : b < 65536) (hc : c < 65536) : rdC (shC a b c) = some (a, b, c) := by
  unfold shC
  split
  · rename_i h
    obtain ⟨h1, h2, h3⟩ := h
    unfold rdC
    rw [if_pos (by rfl), if_pos (by simp [hxs_len])]
    show hex3 2 257 (hxs 2 (a / 257) ++ hxs 2 (b / 257) ++ hxs 2 (c / 257)) = _
    rw [hex3_show (by omega) (by omega) (by omega)]
    simp only [Option.some.injEq, Prod.mk.injEq]
    omega
  · unfold rdC
    rw [if_pos (by rfl), if_neg (by simp [hxs_len]), if_pos (by simp [hxs_len])]
    show hex3 4 1 (hxs 4 a ++ hxs 4 b ++ hxs 4 c) = _
    rw [hex3_show (by omega) (by omega) (by omega)]
    simp only [Nat.one_mul]
theorem shC_len (a b c : Nat) : (shC a b c).length ≤ 13 := by unfold shC; split <;> simp [hxs_len]
end Go.Proofs.YtfamnaekelmkpaaGreatDoor
