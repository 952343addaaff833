/- Between of the reference. -/
import Derived.Test.YtdmpdcggepfaiaaWayH
import Derived.Test.YtdmpdcggepfaiaaFilter
import Derived.Test.YtdmpdcggepfaiaaRefF3
namespace Go.Proofs.Ytdmpdcggepfaiaa
open Go.RowKit Go.Sort

set_option maxHeartbeats 1600000 in
theorem turn_ref (a b k : Int) (w : World) (a0 : 0 ≤ a) (a1 : a ≤ 393209) (b0 : 0 ≤ b) (b1 : b ≤ 393209) (hk : k = 2 ∨ k = 3) :
    Calls Try.prog 36 #[.int .i64 a, .int .i64 b, .int .i64 k] w fun e w' => e = .returned (.int .i64 (if k = 2 then shortT ((b - a + 393210) % 393210) else longT ((b - a + 393210) % 393210))) ∧ w = w' := by
  have HM := Lib.hid (fun w => modulo_ref (b - a) w (by omega) (by omega))
  have e0 : (b - a) % 393210 = (b - a + 393210) % 393210 := by omega
  rw [e0] at HM
  have u0 : 0 ≤ (b - a + 393210) % 393210 := by omega
  have u1 : (b - a + 393210) % 393210 ≤ 393209 := by omega
  clear e0
  generalize (b - a + 393210) % 393210 = u at *
  rcases hk with rfl | rfl
  · rw [if_pos rfl]
    by_cases h : u ≤ 196605
    · have e : Hid (shortT u = u) := by show _ = _; unfold shortT; rw [if_pos h]
      go_enter Try.func36, Try.ntmps36
      go_wp2_with ((with_reducible refine (HM.out _).mono ?_); rintro e' w' ⟨rfl, rfl⟩)
      go_returns
      exact ⟨ret_int e.out.symm, rfl⟩
    · have e : Hid (shortT u = u - 393210) := by show _ = _; unfold shortT; rw [if_neg h]
      go_enter Try.func36, Try.ntmps36
      go_wp2_with ((with_reducible refine (HM.out _).mono ?_); rintro e' w' ⟨rfl, rfl⟩)
      go_returns
      exact ⟨ret_int e.out.symm, rfl⟩
  · rw [if_neg (by decide)]
    by_cases h : 196605 < u
    · have e : Hid (longT u = u) := by show _ = _; unfold longT; rw [if_pos (.inl h)]
      have t1 : decide (196605 < u) = true := by simpa using h
      go_enter Try.func36, Try.ntmps36
      go_wp2_with ((with_reducible refine (HM.out _).mono ?_); rintro e' w' ⟨rfl, rfl⟩)
      go_returns
      exact ⟨ret_int e.out.symm, rfl⟩
    · have t1 : decide (196605 < u) = false := by simpa using h
      by_cases h' : u = 0
      · have e : Hid (longT u = u) := by show _ = _; unfold longT; rw [if_pos (.inr h')]
        have t2 : (u == 0) = true := by simpa using h'
        clear h'
        go_enter Try.func36, Try.ntmps36
        go_wp2_with ((with_reducible refine (HM.out _).mono ?_); rintro e' w' ⟨rfl, rfl⟩)
        go_returns
        exact ⟨ret_int e.out.symm, rfl⟩
      · have e : Hid (longT u = u - 393210) := by show _ = _; unfold longT; rw [if_neg (by omega)]
        have t2 : (u == 0) = false := by simpa using h'
        go_enter Try.func36, Try.ntmps36
        go_wp2_with ((with_reducible refine (HM.out _).mono ?_); rintro e' w' ⟨rfl, rfl⟩)
        go_returns
        exact ⟨ret_int e.out.symm, rfl⟩

/-- The hue on the way, as the reference reckons it. -/
theorem hueW_ref {h t p q : Int} (q0 : 1 ≤ q) : rdv (h * q + t * p) q % 393210 = hueW h t p q := by
  unfold hueW
  rw [show (393210 + h) * q + t * p = (h * q + t * p) + 393210 * q by grind, rdv_add (by omega)]
  omega
theorem hue_small {h t p q : Int} (h0 : 0 ≤ h) (h1 : h ≤ 393209) (t0 : -393210 ≤ t) (t1 : t ≤ 393210) (q0 : 1 ≤ q) (q1 : q ≤ 36000000) (p0 : 0 ≤ p) (p1 : p ≤ q) :
    (0 ≤ h * q ∧ h * q ≤ 14155524000000) ∧ (-14155560000000 ≤ t * p ∧ t * p ≤ 14155560000000) ∧ -393210 ≤ rdv (h * q + t * p) q ∧ rdv (h * q + t * p) q ≤ 1179630 := by
  have a1 := Int.mul_le_mul h1 q1 (by omega) (by omega)
  have a2 := Int.mul_nonneg h0 (show 0 ≤ q by omega)
  have a3 := Int.mul_le_mul_of_nonneg_right t0 p0
  have a4 := Int.mul_le_mul_of_nonneg_right t1 p0
  have a5 := Int.mul_le_mul_of_nonneg_right h1 (show 0 ≤ q by omega)
  refine ⟨⟨a2, by omega⟩, ⟨by omega, by omega⟩, ?_, ?_⟩
  · apply le_rdv (by omega)
    have : -393210 * (2 * q) = -786420 * q := by omega
    omega
  · apply rdv_le (by omega)
    have : (1179630 + 1) * (2 * q) = 2359262 * q := by omega
    omega
end Go.Proofs.Ytdmpdcggepfaiaa
