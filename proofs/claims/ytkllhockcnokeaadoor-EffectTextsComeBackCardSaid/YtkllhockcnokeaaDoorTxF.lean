/- Texts of lists, and how long numbers and levels are: plain mathematics. -/
import Derived.Test.YtkllhockcnokeaaDoorTxT
namespace Go.Proofs.YtkllhockcnokeaaDoor
open Go.RowKit Go.Lib

theorem flat_take {α : Type} (g : α → List UInt8) (L : List α) (k : Nat) (h : k < L.length) : (L.take (k + 1)).flatMap g = (L.take k).flatMap g ++ g L[k] := by
  rw [List.take_succ_eq_append_getElem h, List.flatMap_append]; simp
theorem flat_len {α : Type} (g : α → List UInt8) (c : Nat) : ∀ (L : List α), (∀ x ∈ L, (g x).length ≤ c) → (L.flatMap g).length ≤ c * L.length
  | [], _ => by simp
  | x :: t, h => by
    have h1 := h x List.mem_cons_self
    have h2 := flat_len g c t (fun y hy => h y (List.mem_cons_of_mem _ hy))
    rw [List.flatMap_cons, List.length_append, List.length_cons, Nat.mul_succ]
    omega
theorem dd5 {n : Int} (h0 : 0 ≤ n) (h1 : n ≤ 65535) : (decDigits n.toNat).length ≤ 5 := by rw [decDigits_length]; exact nDigits_lt (by decide) (show n.toNat < 10 ^ 5 by omega)
theorem lvShow_l10 {n : Int} (h0 : 0 ≤ n) (h1 : n ≤ 65535) : (lvShow n).length ≤ 10 := by
  unfold lvShow
  by_cases a : n = 0
  · rw [if_pos a]; decide
  rw [if_neg a]
  by_cases b : n = 65535
  · rw [if_pos b]; decide
  rw [if_neg b]
  by_cases c : rnd (rnd n 65535 100 * 100) 10000 65535 = n
  · rw [if_pos c]
    have p0 : 0 ≤ rnd n 65535 100 := rnd_nonneg (by decide) h0 (by decide)
    have p1 : rnd n 65535 100 ≤ 100 := rnd_le (by decide) h1 (by decide)
    have := dd5 p0 (by omega)
    simp; omega
  · rw [if_neg c]
    have := dd5 h0 h1
    simp; omega
end Go.Proofs.YtkllhockcnokeaaDoor
