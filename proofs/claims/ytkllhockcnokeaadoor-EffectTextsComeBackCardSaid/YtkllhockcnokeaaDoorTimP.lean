/- Times of package level: ReadTime and ShowTime, for all texts and numbers. -/
import Derived.Test.YtkllhockcnokeaaDoorDecP
import Derived.Test.YtkllhockcnokeaaDoorTimD
namespace Go.Proofs.YtkllhockcnokeaaDoor
open Go.RowKit Go.Lib

def pV (p : Nat) (l : List UInt8) : Int := if partsOk 9 p l = true then partsV p l else 0
theorem pV_bd (l : List UInt8) : 0 ≤ pV 3 l ∧ pV 3 l ≤ 1000000000000 := by
  unfold pV
  by_cases h : partsOk 9 3 l = true
  · rw [if_pos h]
    obtain ⟨_, h0, _, h1⟩ := read_show h
    unfold partsOk at h
    have hb := (numOk_bd (Bool.and_eq_true_iff.1 h).1).2
    have hb : val (cut1 46 l).1 < 1000000000 := by simpa using hb
    have h1 : partsV 3 l < (val (cut1 46 l).1 + 1) * 1000 := by simpa using h1
    omega
  · rw [if_neg h]; decide
theorem partsR_eq (p : Nat) (s : ByteArray) : partsR p s = .returned (.tuple #[.int .i64 (pV p s.data.toList), .bool (partsOk 9 p s.data.toList)]) := rfl

def secW (l : List UInt8) : Int := match l with
  | [] => 0
  | c :: t => if 48 ≤ (c.toNat : Int) ∧ (c.toNat : Int) ≤ 53 then ((c.toNat : Int) - 48) * 10000 + pV 3 t else 0
theorem secW_bd (l : List UInt8) : 0 ≤ secW l ∧ secW l ≤ 1000000050000 := by
  cases l with
  | nil => exact ⟨by decide, by decide⟩
  | cons c t =>
    unfold secW
    have := pV_bd t
    by_cases h : 48 ≤ (c.toNat : Int) ∧ (c.toNat : Int) ≤ 53
    · simp only [if_pos h]; omega
    · simp only [if_neg h]; omega
theorem secW_ok {l : List UInt8} (h : secOk l = true) : secW l = secV l := by
  cases l with
  | nil => rfl
  | cons c t =>
    unfold secOk at h
    simp only [Bool.and_eq_true, decide_eq_true_eq] at h
    unfold secW secV
    simp only [if_pos h.1]
    unfold pV
    rw [if_pos h.2.1]
def secR (s : ByteArray) : Ending := .returned (.tuple #[.int .i64 (secW s.data.toList), .bool (secOk s.data.toList)])
theorem tail_of (s : ByteArray) (h : 0 < s.size) : s.data.toList = s[0] :: (s.extract 1 s.size).data.toList := by
  rw [Lib.extract_to_end]
  have := lst_head s h
  cases hl : s.data.toList with
  | nil => rw [hl] at this; cases this
  | cons c t =>
    rw [hl] at this
    injection this with e
    rw [e]; rfl
/-! parseTime, ReadTime. -/
def tW (l : List UInt8) : Int :=
  if (cut1 58 l).2.2 = true then (if numOk 9 (cut1 58 l).1 = true ∧ val (cut1 58 l).1 ≠ 0 ∧ (cut1 58 l).1.length ≤ 4 then val (cut1 58 l).1 * 60000 + secW (cut1 58 l).2.1 else 0)
  else pV 3 l
theorem tW_ok {l : List UInt8} (h : tOk l = true) : tW l = tV l := by
  unfold tOk at h
  unfold tW tV
  by_cases hc : (cut1 58 l).2.2 = true
  · rw [if_pos hc] at h ⊢
    rw [if_pos hc]
    simp only [Bool.and_eq_true, decide_eq_true_eq] at h
    rw [if_pos ⟨h.1.1.1, h.1.1.2, h.1.2⟩, secW_ok h.2]
  · rw [if_neg hc] at h ⊢
    rw [if_neg hc]
    unfold pV
    rw [if_pos (Bool.and_eq_true_iff.1 h).1]
theorem tW_bd (l : List UInt8) : 0 ≤ tW l ∧ tW l ≤ 2000000000000 := by
  unfold tW
  by_cases hc : (cut1 58 l).2.2 = true
  · rw [if_pos hc]
    by_cases h : numOk 9 (cut1 58 l).1 = true ∧ val (cut1 58 l).1 ≠ 0 ∧ (cut1 58 l).1.length ≤ 4
    · rw [if_pos h]
      have hs := secW_bd (cut1 58 l).2.1
      obtain ⟨h1, h2, h3⟩ := h
      have hd := (numOk_iff.1 h1).2.2.1
      obtain ⟨b0, b1⟩ := val_bd hd
      have b2 : val (cut1 58 l).1 < 10 ^ 4 := Int.lt_of_lt_of_le b1 (pow10_mono h3)
      have b2 : val (cut1 58 l).1 < 10000 := by simpa using b2
      omega
    · rw [if_neg h]; omega
  · rw [if_neg hc]
    have := pV_bd l
    omega
def timR (s : ByteArray) : Ending := .returned (.tuple #[.int .i64 (tW s.data.toList), .bool (tOk s.data.toList)])
def rtV (l : List UInt8) : Int := if tOk l = true ∧ tV l ≤ 36000000 then tV l else 0
def rtX (l : List UInt8) : Int := if tOk l = true then (if tV l ≤ 36000000 then 0 else 1) else 9
def rtR (s : ByteArray) : Ending := .returned (.tuple #[.int .i64 (rtV s.data.toList), .int .i64 (rtX s.data.toList)])
end Go.Proofs.YtkllhockcnokeaaDoor
