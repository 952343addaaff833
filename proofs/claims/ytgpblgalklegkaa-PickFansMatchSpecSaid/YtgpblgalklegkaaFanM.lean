/- Fans in plain numbers: what CheckFan and Levels say. -/
import Derived.Test.YtgpblgalklegkaaSpM
namespace Go.Proofs.Ytgpblgalklegkaa
open Go.RowKit

/-- What CheckFan says. -/
def fanX (l : List Int) (B W : Int) : Int := if l.length = 0 then 8 else if 20 < l.length then 2 else if l.all isLev = false then 1 else if (1 ≤ B ∧ B ≤ 9999) ∧ (1 ≤ W ∧ W ≤ 50) then 0 else 1
/-- A quotient, rounded up. -/
def upq (a b : Int) : Int := (a + b - 1) / b
def fanS (B W n : Int) : Int := upq (upq n B) W
def fanK (B s i : Int) : Int := if i / B / s % 2 = 1 then s - 1 - i / B % s else i / B % s
def fanAt (l : List Int) (B W n i : Int) : Int := spAt l (fanS B W n) (fanK B (fanS B W n) i)
def fanL (l : List Int) (B W n : Int) : List Int := (List.range n.toNat).map fun (i : Nat) => fanAt l B W n (i : Int)
/-- What Levels says and gives. -/
def lvX (l : List Int) (B W n : Int) : Int := if fanX l B W ≠ 0 then fanX l B W else if 0 ≤ n ∧ n ≤ 400 then 0 else 1
def lvR (l : List Int) (B W n : Int) : List Int := if lvX l B W n = 0 then fanL l B W n else []

theorem fan_good {l : List Int} {B W : Int} (h : fanX l B W = 0) : (1 ≤ l.length ∧ l.length ≤ 20 ∧ l.all isLev = true) ∧ (1 ≤ B ∧ B ≤ 9999) ∧ 1 ≤ W ∧ W ≤ 50 := by
  unfold fanX at h
  by_cases h1 : l.length = 0
  · rw [if_pos h1] at h; cases h
  rw [if_neg h1] at h
  by_cases h2 : 20 < l.length
  · rw [if_pos h2] at h; cases h
  rw [if_neg h2] at h
  cases h3 : l.all isLev with
  | false => rw [if_pos h3] at h; cases h
  | true =>
    rw [if_neg (by rw [h3]; decide)] at h
    by_cases h4 : (1 ≤ B ∧ B ≤ 9999) ∧ 1 ≤ W ∧ W ≤ 50
    · exact ⟨⟨by omega, by omega, rfl⟩, h4⟩
    · rw [if_neg h4] at h; cases h

theorem up_bd {a b : Int} (h0 : 0 ≤ a) (h1 : 1 ≤ b) : 0 ≤ upq a b ∧ upq a b ≤ a ∧ (0 < a → 1 ≤ upq a b) := by
  unfold upq
  refine ⟨Int.ediv_nonneg (by omega) (by omega), ?_, fun h => ?_⟩
  · have : a * 1 ≤ a * b := Int.mul_le_mul_of_nonneg_left h1 h0
    have : (a + b - 1) / b < a + 1 := Int.ediv_lt_of_lt_mul (by omega) (by rw [Int.add_mul, Int.one_mul]; omega)
    omega
  · exact (Int.le_ediv_iff_mul_le (by omega)).2 (by omega)
theorem fanS_bd {B W n : Int} (hB : 1 ≤ B) (hW : 1 ≤ W) (hn : 0 ≤ n) : 0 ≤ fanS B W n ∧ fanS B W n ≤ n ∧ (0 < n → 1 ≤ fanS B W n) := by
  obtain ⟨a, b, c⟩ := up_bd hn hB
  obtain ⟨d, e, f⟩ := up_bd a hW
  exact ⟨d, by unfold fanS; omega, fun h => f (c h)⟩
theorem fanK_bd {B s i : Int} (hB : 1 ≤ B) (hs : 1 ≤ s) (hi : 0 ≤ i) : (0 ≤ i / B ∧ i / B ≤ i) ∧ (0 ≤ i / B / s ∧ i / B / s ≤ i) ∧ (0 ≤ i / B % s ∧ i / B % s < s) ∧ (i / B / s % 2 = 0 ∨ i / B / s % 2 = 1) ∧ 0 ≤ fanK B s i ∧ fanK B s i < s := by
  have a1 := Int.ediv_nonneg hi (show 0 ≤ B by omega)
  have a2 := Int.ediv_le_self B hi
  have b1 := Int.ediv_nonneg a1 (show 0 ≤ s by omega)
  have b2 := Int.ediv_le_self s a1
  have c1 := Int.emod_nonneg (i / B) (show s ≠ 0 by omega)
  have c2 := Int.emod_lt_of_pos (i / B) (show 0 < s by omega)
  refine ⟨⟨a1, a2⟩, ⟨b1, by omega⟩, ⟨c1, c2⟩, by omega, ?_⟩
  unfold fanK
  split <;> omega

theorem fanL_len (l : List Int) (B W n : Int) : (fanL l B W n).length = n.toNat := by unfold fanL; simp
theorem fanL_get (l : List Int) (B W n : Int) (j : Nat) (h : j < n.toNat) : (fanL l B W n)[j]?.getD 0 = fanAt l B W n j := by unfold fanL; simp [h]
theorem fanL_eq {l ds : List Int} {B W n : Int} (h : ds.length = n.toNat) (hj : ∀ j, j < n.toNat → ds[j]?.getD 0 = fanAt l B W n j) : ds = fanL l B W n := by
  refine List.ext_getElem (by rw [fanL_len]; exact h) fun j h1 h2 => ?_
  have a := hj j (by omega)
  have b := fanL_get l B W n j (by omega)
  rw [List.getElem?_eq_getElem h1, Option.getD_some] at a
  rw [List.getElem?_eq_getElem h2, Option.getD_some] at b
  rw [a, b]

/-- With two wings of one size the places are the same from both ends. -/
theorem fanK_back {B n i : Int} (hB : 1 ≤ B) (hm : n % (2 * B) = 0) (h0 : 0 ≤ i) (hi : i < n) : fanK B (fanS B 2 n) (n - 1 - i) = fanK B (fanS B 2 n) i := by
  obtain ⟨t, ht⟩ : ∃ t, n = 2 * B * t := ⟨n / (2 * B), by have := Int.mul_ediv_add_emod n (2 * B); omega⟩
  have hm1 : upq n B = 2 * t := by
    unfold upq
    refine (Int.ediv_emod_unique (r := B - 1) (show (0 : Int) < B by omega)).2 ⟨?_, by omega, by omega⟩ |>.1
    rw [ht, show B * (2 * t) = 2 * B * t by rw [← Int.mul_assoc, Int.mul_comm B 2]]; omega
  have hs : fanS B 2 n = t := by
    unfold fanS
    rw [hm1]
    unfold upq
    omega
  rw [hs]
  have a1 := Int.mul_ediv_add_emod i B
  have r1 := Int.emod_nonneg i (show B ≠ 0 by omega)
  have r2 := Int.emod_lt_of_pos i (show 0 < B by omega)
  obtain ⟨q, hq⟩ : ∃ q, q = i / B := ⟨_, rfl⟩
  rw [← hq] at a1
  have q0 : 0 ≤ q := by rw [hq]; exact Int.ediv_nonneg h0 (by omega)
  have hq2 : q < 2 * t := by
    rw [hq]
    refine Int.ediv_lt_of_lt_mul (by omega) ?_
    rw [show 2 * t * B = 2 * B * t by rw [Int.mul_assoc, Int.mul_comm t B, ← Int.mul_assoc]]; omega
  have hj : (n - 1 - i) / B = 2 * t - 1 - q := by
    refine (Int.ediv_emod_unique (r := B - 1 - i % B) (show (0 : Int) < B by omega)).2 ⟨?_, by omega, by omega⟩ |>.1
    rw [Int.mul_sub, Int.mul_sub, Int.mul_one, show B * (2 * t) = 2 * B * t by rw [← Int.mul_assoc, Int.mul_comm B 2]]; omega
  unfold fanK
  rw [hj, ← hq]
  by_cases hw : q < t
  · have e1 : q / t = 0 := Int.ediv_eq_zero_of_lt q0 hw
    have e2 : q % t = q := Int.emod_eq_of_lt q0 hw
    obtain ⟨f1, f2⟩ := (Int.ediv_emod_unique (a := 2 * t - 1 - q) (q := 1) (r := t - 1 - q) (show (0 : Int) < t by omega)).2 ⟨by omega, by omega, by omega⟩
    rw [e1, e2, f1, f2]; simp; omega
  · obtain ⟨e1, e2⟩ := (Int.ediv_emod_unique (a := q) (q := 1) (r := q - t) (show (0 : Int) < t by omega)).2 ⟨by omega, by omega, by omega⟩
    have f1 : (2 * t - 1 - q) / t = 0 := Int.ediv_eq_zero_of_lt (by omega) (by omega)
    have f2 : (2 * t - 1 - q) % t = 2 * t - 1 - q := Int.emod_eq_of_lt (by omega) (by omega)
    rw [e1, e2, f1, f2]; simp; omega
theorem fanL_back {l : List Int} {B n : Int} (hB : 1 ≤ B) (hm : n % (2 * B) = 0) : (fanL l B 2 n).reverse = fanL l B 2 n := by
  refine fanL_eq (by rw [List.length_reverse, fanL_len]) fun j hj => ?_
  rw [List.getElem?_reverse (by rw [fanL_len]; exact hj), fanL_len, fanL_get l B 2 n _ (by omega)]
  unfold fanAt
  rw [show ((n.toNat - 1 - j : Nat) : Int) = n - 1 - (j : Int) by omega, fanK_back hB hm (by omega) (by omega)]
end Go.Proofs.Ytgpblgalklegkaa
