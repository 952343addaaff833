/- Fractions of package level: minus, rest, between. -/
import Derived.Test.YtdienaigmkaheaaOf
namespace Go.Proofs.Ytdienaigmkaheaa
open Go.RowKit Go.Sort

def sHi (x y b : Nat) : Nat := if x < y + b then 1 else 0
def sLo (x y b : Nat) : Nat := (x + 18446744073709551616 - y - b) % 18446744073709551616
theorem sub64z (x y : Nat) (w : World) : (callFunc 78 #[.int .u64 x, .int .u64 y, .int .u64 0]).run Try.prog w = .ok (.value (.tuple #[.int .u64 (sLo x y 0), .int .u64 (sHi x y 0)])) w := sub64 x y 0 (by omega) w
theorem sub64c (x y c : Nat) (hc : c ≤ 1) (w : World) : (callFunc 78 #[.int .u64 x, .int .u64 y, .int .u64 c]).run Try.prog w = .ok (.value (.tuple #[.int .u64 (sLo x y c), .int .u64 (sHi x y c)])) w := sub64 x y c hc w
theorem sHi_le (x y b : Nat) : sHi x y b ≤ 1 := by unfold sHi; split <;> omega
theorem sub_eq (x y x' y' : Nat) (h1 : x ≤ 18446744073709551615) (h2 : y ≤ 18446744073709551615) (h3 : x' ≤ 18446744073709551615) (h4 : y' ≤ 18446744073709551615)
    (h : (x' : Int) * 18446744073709551616 + y' ≤ x * 18446744073709551616 + y) :
    (sLo x x' (sHi y y' 0) : Int) * 18446744073709551616 + (sLo y y' 0 : Int) = (x : Int) * 18446744073709551616 + y - (x' * 18446744073709551616 + y') := by
  unfold sLo sHi
  by_cases hy : y < y' + 0
  · rw [if_pos hy]; omega
  · rw [if_neg hy]; omega
theorem sLo_le (x y b : Nat) : sLo x y b ≤ 18446744073709551615 := by unfold sLo; omega

theorem own4f {w W : World} {a b c d : Value} {t : TypeId} (h : Gr (w.alloc (.cells #[a, b, c, d] t)) W) (j : Nat) : W.frozen? ⟨w.heap.size, j, none⟩ = false := by
  rw [h.frozen (by simp)]; simp

set_option maxHeartbeats 400000 in
theorem minus_any (h l V h' l' V' : Int) (w : World) (H : Wd h l V) (H' : Wd h' l' V') (hV : V' ≤ V) :
    Calls Try.prog 65 #[.agg #[.int .u64 h, .int .u64 l], .agg #[.int .u64 h', .int .u64 l']] w (PWd (V - V') ((w.alloc (.cells #[.int .u64 h, .int .u64 l] 40)).alloc (.cells #[.int .u64 h', .int .u64 l'] 40))) := by
  obtain ⟨h0, h1, l0, l1, rfl⟩ := H
  obtain ⟨h0', h1', l0', l1', rfl⟩ := H'
  obtain ⟨x, rfl⟩ := Int.eq_ofNat_of_zero_le h0
  obtain ⟨y, rfl⟩ := Int.eq_ofNat_of_zero_le l0
  obtain ⟨x', rfl⟩ := Int.eq_ofNat_of_zero_le h0'
  obtain ⟨y', rfl⟩ := Int.eq_ofNat_of_zero_le l0'
  have c1 := sHi_le y y' 0
  have e1 := sub64z y y'
  have e2 := sub64c x x' (sHi y y' 0) c1
  have HV := Lib.hid (sub_eq x y x' y' (by omega) (by omega) (by omega) (by omega) hV)
  clear hV
  go_enter Try.func65, Try.ntmps65
  go_wp2
  go_returns
  exact ⟨_, _, rfl, ⟨by omega, by have := sLo_le x x' (sHi y y' 0); omega, by omega, by have := sLo_le y y' 0; omega, HV.out⟩, rfl⟩

set_option maxHeartbeats 800000 in
theorem rest_any (nh nl dh dl N D : Int) (w : World) (HN : Wd nh nl N) (HD : Wd dh dl D) (h : N ≤ D) :
    Calls Try.prog 42 #[.agg #[.int .u64 nh, .int .u64 nl, .int .u64 dh, .int .u64 dl]] w (PRa (D - N) D w) := by
  have HN' := Lib.hid HN
  have HD' := Lib.hid HD
  clear HN HD
  go_enter Try.func42, Try.ntmps42
  go_wp2_with fail
  go_region_held3 (fun w' => w'.cell? ⟨w.heap.size, 0, none⟩ = some (.int .u64 nh) ∧ w'.cell? ⟨w.heap.size, 1, none⟩ = some (.int .u64 nl) ∧ w'.cell? ⟨w.heap.size, 2, none⟩ = some (.int .u64 dh) ∧ w'.cell? ⟨w.heap.size, 3, none⟩ = some (.int .u64 dl)) (exact own4 (by repeat (first | with_reducible exact Gr.refl _ | with_reducible refine Gr.drew ?_ | with_reducible refine Gr.alloc ?_ _)))
    (first | (go_at_call 65; refine (minus_any dh dl D nh nl N _ HD'.out HN'.out h).mono ?_; rintro e w' ⟨xh, xl, rfl, HX, rfl⟩))
  go_wp2
  go_returns
  exact ⟨xh, xl, dh, dl, rfl, ⟨HX, HD'.out⟩, by repeat (first | with_reducible exact Gr.refl _ | with_reducible refine Gr.drew ?_ | with_reducible refine Gr.alloc ?_ _)⟩

/-- The number between a and b. -/
def btw (N D a b : Int) : Int := if b < a then b + rnd (D - N) D (a - b) else a + rnd N D (b - a)

end Go.Proofs.Ytdienaigmkaheaa
