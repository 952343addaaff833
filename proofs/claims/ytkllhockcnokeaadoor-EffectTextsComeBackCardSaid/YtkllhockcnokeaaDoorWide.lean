/- The numbers of 128 bits of package level, and what is made of them: product, times, plus, less. -/
import Derived.Test.YtkllhockcnokeaaDoorShelf
import Derived.Test.YtkllhockcnokeaaDoorMath
import Derived.Test.YtkllhockcnokeaaDoorRet
import Derived.Handy
namespace Go.Proofs.YtkllhockcnokeaaDoor
open Go.RowKit Go.Sort

/-- A call that gives a number of 128 bits, which it has laid behind W. -/
def PWd (V : Int) (W : World) (e : Ending) (w' : World) : Prop := ∃ h l : Int, e = .returned (.agg #[.int .u64 h, .int .u64 l]) ∧ Wd h l V ∧ W.alloc (.cells #[.int .u64 h, .int .u64 l] 61) = w'

def mHi (x y : Nat) : Nat := x * y / 18446744073709551616
def mLo (x y : Nat) : Nat := x * y % 18446744073709551616
def aHi (x y c : Nat) : Nat := (x + y + c) / 18446744073709551616
def aLo (x y c : Nat) : Nat := (x + y + c) % 18446744073709551616
theorem mHi_le (x y : Nat) (hx : x ≤ 18446744073709551615) (hy : y ≤ 18446744073709551615) : mHi x y ≤ 18446744073709551615 := by
  unfold mHi
  have := Nat.mul_le_mul hx hy
  omega
theorem mLo_le (x y : Nat) : mLo x y ≤ 18446744073709551615 := by unfold mLo; omega
theorem aLo_le (x y c : Nat) : aLo x y c ≤ 18446744073709551615 := by unfold aLo; omega
theorem m_eq (x y : Nat) : (mHi x y : Int) * 18446744073709551616 + (mLo x y : Int) = (x : Int) * (y : Int) := by
  unfold mHi mLo; rw [← Int.natCast_mul]; omega
theorem a_eq (x y c : Nat) : (aHi x y c : Int) * 18446744073709551616 + (aLo x y c : Int) = (x : Int) + (y : Int) + (c : Int) := by
  unfold aHi aLo; omega
theorem aHi_le (x y c : Nat) (hx : x ≤ 18446744073709551615) (hy : y ≤ 18446744073709551615) (hc : c ≤ 1) : aHi x y c ≤ 1 := by unfold aHi; omega
theorem mul64' (x y : Nat) (w : World) (hx : x ≤ 18446744073709551615) (hy : y ≤ 18446744073709551615) :
    Calls Tryd.prog 74 #[.int .u64 x, .int .u64 y] w fun e w' => e = .returned (.tuple #[.int .u64 (mHi x y), .int .u64 (mLo x y)]) ∧ w = w' :=
  (mul64 x y (by omega) (by omega) w).mono fun _ _ ⟨he, hw⟩ => ⟨he, hw.symm⟩
theorem add64z (x y : Nat) (w : World) : (callFunc 75 #[.int .u64 x, .int .u64 y, .int .u64 0]).run Tryd.prog w = .ok (.value (.tuple #[.int .u64 (aLo x y 0), .int .u64 (aHi x y 0)])) w := add64 x y 0 (by omega) w
theorem add64c (x y c : Nat) (hc : c ≤ 1) (w : World) : (callFunc 75 #[.int .u64 x, .int .u64 y, .int .u64 c]).run Tryd.prog w = .ok (.value (.tuple #[.int .u64 (aLo x y c), .int .u64 (aHi x y c)])) w := add64 x y c hc w

set_option maxHeartbeats 400000 in
theorem product_any (a b : Int) (w : World) (ha : 0 ≤ a) (ha' : a ≤ 9223372036854775807) (hb : 0 ≤ b) (hb' : b ≤ 9223372036854775807) :
    Calls Tryd.prog 58 #[.int .i64 a, .int .i64 b] w (PWd (a * b) w) := by
  obtain ⟨x, rfl⟩ := Int.eq_ofNat_of_zero_le ha
  obtain ⟨y, rfl⟩ := Int.eq_ofNat_of_zero_le hb
  go_enter Tryd.func58, Tryd.ntmps58
  go_wp2_with (go_at_call 74; refine (mul64' x y _ (by omega) (by omega)).mono ?_; rintro e w' ⟨rfl, rfl⟩)

  go_returns
  exact ⟨_, _, rfl, ⟨by omega, by have := mHi_le x y (by omega) (by omega); omega, by omega, by have := mLo_le x y; omega, m_eq x y⟩, rfl⟩

theorem wd_lt {h l V : Int} (H : Wd h l V) : 0 ≤ V ∧ V ≤ 340282366920938463463374607431768211455 := by
  obtain ⟨a, b, c, d, e⟩ := H; omega

/-- What 'times' makes of the upper half does not go round. -/
theorem times_hi {h l n : Int} (h0 : 0 ≤ h) (l0 : 0 ≤ l) (hn : 0 ≤ n) (hV : (h * 18446744073709551616 + l) * n ≤ 340282366920938463463374607431768211455) (hi lo : Int) (e : hi * 18446744073709551616 + lo = l * n) (hlo : 0 ≤ lo) :
    0 ≤ h * n ∧ h * n ≤ 18446744073709551615 ∧ hi + h * n ≤ 18446744073709551615 := by
  have e1 : (h * 18446744073709551616 + l) * n = (h * n) * 18446744073709551616 + l * n := by grind
  have p1 := Int.mul_nonneg h0 hn
  have p2 := Int.mul_nonneg l0 hn
  rw [e1] at hV
  generalize h * n = x at *
  generalize l * n = y at *
  omega

set_option maxHeartbeats 400000 in
theorem times_any (h l V n : Int) (w : World) (H : Wd h l V) (hn : 0 ≤ n) (hn' : n ≤ 9223372036854775807) (hV : V * n ≤ 340282366920938463463374607431768211455) :
    Calls Tryd.prog 59 #[.agg #[.int .u64 h, .int .u64 l], .int .i64 n] w (PWd (V * n) (w.alloc (.cells #[.int .u64 h, .int .u64 l] 61))) := by
  obtain ⟨h0, h1, l0, l1, rfl⟩ := H
  obtain ⟨x, rfl⟩ := Int.eq_ofNat_of_zero_le h0
  obtain ⟨y, rfl⟩ := Int.eq_ofNat_of_zero_le l0
  obtain ⟨k, rfl⟩ := Int.eq_ofNat_of_zero_le hn
  obtain ⟨t1, t2, t3⟩ := times_hi h0 l0 hn hV _ _ (m_eq y k) (by omega)
  have t4 := mLo_le y k
  clear hV
  go_enter Tryd.func59, Tryd.ntmps59
  go_wp2_with (go_at_call 74; refine (mul64' y k _ (by omega) (by omega)).mono ?_; rintro e w' ⟨rfl, rfl⟩)
  go_returns
  exact ⟨_, _, rfl, ⟨by omega, by omega, by omega, by omega, by
    have e1 := m_eq y k
    have e2 : ((x : Int) * 18446744073709551616 + y) * k = ((x : Int) * k) * 18446744073709551616 + y * k := by grind
    rw [e2, ← e1]; omega⟩, rfl⟩

set_option maxHeartbeats 400000 in
theorem plus_any (h l V h' l' V' : Int) (w : World) (H : Wd h l V) (H' : Wd h' l' V') (hV : V + V' ≤ 340282366920938463463374607431768211455) :
    Calls Tryd.prog 60 #[.agg #[.int .u64 h, .int .u64 l], .agg #[.int .u64 h', .int .u64 l']] w (PWd (V + V') ((w.alloc (.cells #[.int .u64 h, .int .u64 l] 61)).alloc (.cells #[.int .u64 h', .int .u64 l'] 61))) := by
  obtain ⟨h0, h1, l0, l1, rfl⟩ := H
  obtain ⟨h0', h1', l0', l1', rfl⟩ := H'
  obtain ⟨x, rfl⟩ := Int.eq_ofNat_of_zero_le h0
  obtain ⟨y, rfl⟩ := Int.eq_ofNat_of_zero_le l0
  obtain ⟨x', rfl⟩ := Int.eq_ofNat_of_zero_le h0'
  obtain ⟨y', rfl⟩ := Int.eq_ofNat_of_zero_le l0'
  have c1 := aHi_le y y' 0 (by omega) (by omega) (by omega)
  have e1 := add64z y y'
  have e2 := add64c x x' (aHi y y' 0) c1
  go_enter Tryd.func60, Tryd.ntmps60
  go_wp2
  go_returns
  exact ⟨_, _, rfl, ⟨by omega, by have := aLo_le x x' (aHi y y' 0); omega, by omega, by have := aLo_le y y' 0; omega, by
    have e1 := a_eq y y' 0
    have e2 := a_eq x x' (aHi y y' 0)
    have e3 := aLo_le x x' (aHi y y' 0)
    have e4 := aLo_le y y' 0
    omega⟩, rfl⟩

set_option maxHeartbeats 400000 in
theorem less_any (h l V h' l' V' : Int) (w : World) (H : Wd h l V) (H' : Wd h' l' V') :
    Calls Tryd.prog 63 #[.agg #[.int .u64 h, .int .u64 l], .agg #[.int .u64 h', .int .u64 l']] w fun e w' => e = .returned (.bool (decide (V < V'))) ∧ ((w.alloc (.cells #[.int .u64 h, .int .u64 l] 61)).alloc (.cells #[.int .u64 h', .int .u64 l'] 61)) = w' := by
  obtain ⟨h0, h1, l0, l1, rfl⟩ := H
  obtain ⟨h0', h1', l0', l1', rfl⟩ := H'
  go_enter Tryd.func63, Tryd.ntmps63
  go_wp2
  all_goals go_returns
  all_goals refine ⟨?_, by first | rfl | (simp only [*]; done)⟩
  all_goals first
    | exact ret_bool (decide_eq_decide.2 (by omega))
    | exact ret_bool (decide_eq_true (by omega)).symm
    | exact ret_bool (decide_eq_false (by omega)).symm

/-- The halves of a number of 128 bits. -/
def wH (V : Int) : Int := V / 18446744073709551616
def wL (V : Int) : Int := V % 18446744073709551616
theorem wd_of {V : Int} (h : 0 ≤ V) (h' : V ≤ 340282366920938463463374607431768211455) : Wd (wH V) (wL V) V := by unfold wH wL Wd; omega
theorem wd_eq {h l V : Int} (H : Wd h l V) : h = wH V ∧ l = wL V := by
  obtain ⟨a, b, c, d, e⟩ := H; unfold wH wL; omega
theorem less_v (h l V h' l' V' : Int) (w : World) (H : Wd h l V) (H' : Wd h' l' V') :
    Calls Tryd.prog 63 #[.agg #[.int .u64 h, .int .u64 l], .agg #[.int .u64 h', .int .u64 l']] w fun e w' => e = .returned (.bool (decide (V < V'))) ∧ Gr w w' :=
  (less_any h l V h' l' V' w H H').mono fun _ _ ⟨he, hx⟩ => ⟨he, by subst hx; exact ((Gr.refl w).alloc _).alloc _⟩
theorem times_v (h l V n : Int) (w : World) (H : Wd h l V) (hn : 0 ≤ n) (hn' : n ≤ 9223372036854775807) (hV : V * n ≤ 340282366920938463463374607431768211455) :
    Calls Tryd.prog 59 #[.agg #[.int .u64 h, .int .u64 l], .int .i64 n] w fun e w' => e = .returned (.agg #[.int .u64 (wH (V * n)), .int .u64 (wL (V * n))]) ∧ Gr w w' :=
  (times_any h l V n w H hn hn' hV).mono fun e w' ⟨a, b, he, hw, hx⟩ => by
    obtain ⟨rfl, rfl⟩ := wd_eq hw
    subst hx
    exact ⟨he, ((Gr.refl w).alloc _).alloc _⟩
end Go.Proofs.YtkllhockcnokeaaDoor
