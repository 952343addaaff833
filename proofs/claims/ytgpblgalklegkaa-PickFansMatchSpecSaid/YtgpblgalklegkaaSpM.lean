/- Highest, of the program and of the reference; Spread in plain numbers. -/
import Derived.Test.YtgpblgalklegkaaMixF
namespace Go.Proofs.Ytgpblgalklegkaa
open Go.RowKit

set_option maxHeartbeats 400000 in
theorem areLevels_slc (v : Value) (xs : List Int) (w : World) (h : Slc w v xs) :
    Calls Try.prog 26 #[v] w fun e w' => e = .returned (.bool (xs.all isLev)) ∧ w = w' := by
  rcases h.open with ⟨rfl, o, cap, rfl, hc⟩ | ⟨b, off, cap, rfl, h0, h1, h2, h3⟩
  · go_enter Try.func26, Try.ntmps26
    go_wp2
    refine wp_loop_rounds 1 ?_
    rw [rounds_succ]
    go_wp2
    go_ret
    exact ⟨rfl, rfl⟩
  · exact (areLevels_any b off xs.length cap xs w (Nat.le_refl _) (by omega) h3).mono fun _ _ ⟨he, hw⟩ => ⟨by rw [he, List.take_length], hw⟩
theorem allLev_all {xs : List Int} (h : allLev xs xs.length) : xs.all isLev = true := by
  have := (allLev_iff xs xs.length (Nat.le_refl _)).2 h
  rwa [List.take_length] at this
theorem all_allLev {xs : List Int} (h : xs.all isLev = true) : allLev xs xs.length := by
  refine (allLev_iff xs xs.length (Nat.le_refl _)).1 ?_
  rwa [List.take_length]
theorem allLev_not {xs : List Int} {k : Nat} (hk : k < xs.length) (h : isLev (xs[k]?.getD 0) = false) : xs.all isLev = false := by
  rw [Bool.eq_false_iff]
  intro h'
  have := all_allLev h' k hk
  rw [h] at this
  cases this

/-- The greatest number. -/
def hiL : Int → List Int → Int
  | a, [] => a
  | a, x :: r => hiL (max a x) r
theorem hiL_snoc : ∀ (r : List Int) (a x : Int), hiL a (r ++ [x]) = max (hiL a r) x
  | [], _, _ => rfl
  | _ :: r, _, x => hiL_snoc r _ x
theorem hiL_take (r : List Int) (a : Int) (k : Nat) (h : k < r.length) : hiL a (r.take (k + 1)) = max (hiL a (r.take k)) (r[k]?.getD 0) := by
  rw [← List.take_append_getElem h, hiL_snoc, List.getElem?_eq_getElem h, Option.getD_some]
def hiV (l : List Int) : Int := if l.all isLev = true then hiL 0 l else 0
def hiX (l : List Int) : Int := if l.all isLev = true then 0 else 1
theorem hi_yes {l : List Int} (h : l.all isLev = true) : hiV l = hiL 0 l ∧ hiX l = 0 := by unfold hiV hiX; rw [if_pos h, if_pos h]; exact ⟨rfl, rfl⟩
theorem hi_no {l : List Int} (h : l.all isLev = false) : hiV l = 0 ∧ hiX l = 1 := by unfold hiV hiX; rw [h]; exact ⟨rfl, rfl⟩

/-- The gaps of a spread. -/
def spG (n : Int) : Int := if n - 1 < 1 then 1 else n - 1
/-- The level at place i of a spread. -/
def spAt (l : List Int) (n i : Int) : Int := btw (i * ((l.length : Int) - 1) % spG n) (spG n) (l[(i * ((l.length : Int) - 1) / spG n).toNat]?.getD 0) (l[(i * ((l.length : Int) - 1) / spG n).toNat + 1]?.getD 0)
def spL (l : List Int) (n : Int) : List Int := (List.range n.toNat).map fun (i : Nat) => spAt l n (i : Int)
def spX (l : List Int) (n : Int) : Int := if 2000 < l.length then 2 else if l.all isLev = false then 1 else if l.length = 0 then 8 else if n < 0 ∨ 2000 < n then 1 else 0
def spR (l : List Int) (n : Int) : List Int := if spX l n = 0 then spL l n else []
theorem btw_zero {G a b : Int} (h : 0 < G) : btw 0 G a b = a := by
  unfold btw
  by_cases hlt : b < a
  · rw [if_pos hlt, Int.sub_zero, rnd_full h]; omega
  · rw [if_neg hlt, rnd_zero h]; omega
theorem spG_max (n : Int) : max (n - 1) 1 = spG n := by unfold spG; split <;> omega
theorem spG_pos (n : Int) : 1 ≤ spG n := by unfold spG; split <;> omega
theorem spG_le {n : Int} (h : n ≤ 2000) : spG n ≤ 2000 := by unfold spG; split <;> omega
/-- What the numbers of a place are. -/
theorem sp_bd {n i : Int} {m : Nat} (h0 : 0 ≤ i) (h1 : i < n) (hn : n ≤ 2000) (hm : 1 ≤ m) (hm2 : m ≤ 2000) :
    (0 ≤ i * ((m : Int) - 1) ∧ i * ((m : Int) - 1) ≤ 4000000) ∧ (0 ≤ i * ((m : Int) - 1) / spG n ∧ i * ((m : Int) - 1) / spG n ≤ (m : Int) - 1) ∧ (0 ≤ i * ((m : Int) - 1) % spG n ∧ i * ((m : Int) - 1) % spG n < spG n) ∧
      (0 < i * ((m : Int) - 1) % spG n → i * ((m : Int) - 1) / spG n + 1 ≤ (m : Int) - 1) := by
  have g1 := spG_pos n
  have a1 : 0 ≤ i * ((m : Int) - 1) := Int.mul_nonneg h0 (by omega)
  have a2 : i * ((m : Int) - 1) ≤ 2000 * 2000 := Int.mul_le_mul (by omega) (by omega) (by omega) (by omega)
  have a3 : i * ((m : Int) - 1) ≤ spG n * ((m : Int) - 1) := Int.mul_le_mul_of_nonneg_right (by unfold spG; split <;> omega) (by omega)
  have r1 := Int.emod_nonneg (i * ((m : Int) - 1)) (show spG n ≠ 0 by omega)
  have r2 := Int.emod_lt_of_pos (i * ((m : Int) - 1)) (show 0 < spG n by omega)
  have e1 := Int.mul_ediv_add_emod (i * ((m : Int) - 1)) (spG n)
  have q0 := Int.ediv_nonneg a1 (show 0 ≤ spG n by omega)
  generalize i * ((m : Int) - 1) = q at *
  generalize q / spG n = k at *
  generalize q % spG n = r at *
  generalize spG n = G at *
  have q1 : k ≤ (m : Int) - 1 := by
    by_cases hk : k ≤ (m : Int) - 1
    · exact hk
    · have : G * ((m : Int) - 1 + 1) ≤ G * k := Int.mul_le_mul_of_nonneg_left (by omega) (by omega)
      rw [Int.mul_add] at this
      omega
  refine ⟨⟨a1, by omega⟩, ⟨q0, q1⟩, ⟨r1, r2⟩, fun hr => ?_⟩
  by_cases hk : k + 1 ≤ (m : Int) - 1
  · exact hk
  · obtain rfl : k = (m : Int) - 1 := by omega
    omega
theorem spL_len (l : List Int) (n : Int) : (spL l n).length = n.toNat := by unfold spL; simp
theorem spL_get (l : List Int) (n : Int) (j : Nat) (h : j < n.toNat) : (spL l n)[j]?.getD 0 = spAt l n j := by unfold spL; simp [h]
theorem spL_eq {l ds : List Int} {n : Int} (h : ds.length = n.toNat) (hj : ∀ j, j < n.toNat → ds[j]?.getD 0 = spAt l n j) : ds = spL l n := by
  refine List.ext_getElem (by rw [spL_len, h]) fun j h1 h2 => ?_
  have a := hj j (by omega)
  have b := spL_get l n j (by omega)
  rw [List.getElem?_eq_getElem h1, Option.getD_some] at a
  rw [List.getElem?_eq_getElem h2, Option.getD_some] at b
  rw [a, b]
end Go.Proofs.Ytgpblgalklegkaa
