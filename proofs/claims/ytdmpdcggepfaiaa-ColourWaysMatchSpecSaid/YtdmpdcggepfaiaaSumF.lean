/- The reference's Scale, Mix, Octet, FromOctet; the program's Mix and its errors. -/
import Derived.Test.YtdmpdcggepfaiaaRefL
import Derived.Test.YtdmpdcggepfaiaaScale
namespace Go.Proofs.Ytdmpdcggepfaiaa
open Go.RowKit

theorem lt5 {N : Int} (h : N ≤ 1000000000000000000000) : N < pw 4 := by
  have e : (1000000000000000000000 : Int) < pw 4 := by decide
  omega
theorem lt6 {N : Int} (h : N ≤ 1000000000000000000000) : N < pw 6 := by
  have e : (1000000000000000000000 : Int) < pw 6 := by decide
  omega
theorem lt55 {N : Int} (h : N ≤ 1000000000000000000000) : N < pw 5 := by
  have e : (1000000000000000000000 : Int) < pw 5 := by decide
  omega

/-- Part, then Round. -/
theorem round_part (va : Value) (a b : Int) (w : World) (h : Fr w va a b) (a0 : 0 ≤ a) (a1 : a ≤ 1000000000000) (b0 : 0 < b) (b1 : b ≤ 1000000000000) :
    Calls Try.prog 39 #[va] w fun e w' => e = .returned (.int .i64 (rdF a b)) ∧ Bl w w' :=
  round_fr va a b w h (lt55 (by omega)) (lt55 (by omega)) (lt55 (by omega)) (lt6 (by omega)) (by
    have : (((a * 2 + 1 * b).natAbs : Int) / (b * 2)) ≤ ((a * 2 + 1 * b).natAbs : Int) := Int.ediv_le_self _ (by omega)
    omega)

/-- What Scale gives. -/
def scV (a b : Int) : Int := if (isLev a && isLev b) = true then rnd b 65535 a else 0
def scX (a b : Int) : Int := if (isLev a && isLev b) = true then 0 else 1
theorem scale_prog (a b : Int) (w : World) :
    Calls Try.prog 28 #[.int .i64 a, .int .i64 b] w fun e w' => e = .returned (.tuple #[.int .i64 (scV a b), .int .i64 (scX a b)]) ∧ Gr w w' := by
  unfold scV scX
  cases h : (isLev a && isLev b) with
  | true =>
    have h2 : isLev a = true ∧ isLev b = true := by simpa using h
    rw [if_pos rfl, if_pos rfl]
    exact scale_any a b w h2.1 h2.2
  | false =>
    rw [if_neg (by decide), if_neg (by decide)]
    exact scale_err a b w h

set_option maxHeartbeats 800000 in
theorem scale_ref (a b : Int) (w : World) :
    Calls Try.prog 30 #[.int .i64 a, .int .i64 b] w fun e w' => e = .returned (.tuple #[.int .i64 (scV a b), .int .i64 (scX a b)]) ∧ Bl w w' := by
  have hA := fun w => isLevel_ref a w
  have hB := fun w => isLevel_ref b w
  cases ha : isLev a with
  | false =>
    have e : Hid (scV a b = 0 ∧ scX a b = 1) := by unfold scV scX; rw [ha]; exact ⟨rfl, rfl⟩
    rw [ha] at hA
    have HA := Lib.hid hA
    clear hA hB ha
    go_enter Try.func30, Try.ntmps30
    go_wp2_with fail
    refine (HA.out _).mono ?_
    rintro e' w' ⟨rfl, rfl⟩
    go_wp2_with fail
    go_returns
    exact ⟨by rw [e.out.1, e.out.2]; rfl, Bl.refl _⟩
  | true =>
    rw [ha] at hA
    have HA := Lib.hid hA
    cases hb : isLev b with
    | false =>
      have e : Hid (scV a b = 0 ∧ scX a b = 1) := by unfold scV scX; rw [ha, hb]; exact ⟨rfl, rfl⟩
      rw [hb] at hB
      have HB := Lib.hid hB
      clear hA hB ha hb
      go_enter Try.func30, Try.ntmps30
      go_wp2_with fail
      refine (HA.out _).mono ?_
      rintro e' w' ⟨rfl, rfl⟩
      go_wp2_with fail
      refine (HB.out _).mono ?_
      rintro e' w' ⟨rfl, rfl⟩
      go_wp2_with fail
      go_returns
      exact ⟨by rw [e.out.1, e.out.2]; rfl, Bl.refl _⟩
    | true =>
      have e : Hid (scV a b = rdF (a * b) 65535 ∧ scX a b = 0) := by unfold scV scX; rw [ha, hb]; exact ⟨rd_rnd.symm, rfl⟩
      rw [hb] at hB
      have HB := Lib.hid hB
      obtain ⟨a0, a1⟩ := isLev_iff.1 ha
      obtain ⟨b0, b1⟩ := isLev_iff.1 hb
      have ab0 := Int.mul_nonneg a0 b0
      have ab1 : a * b ≤ 65535 * 65535 := Int.mul_le_mul a1 b1 b0 (by omega)
      clear hA hB ha hb
      go_enter Try.func30, Try.ntmps30
      go_wp2_with fail
      refine (HA.out _).mono ?_
      rintro e' w' ⟨rfl, rfl⟩
      go_wp2_with fail
      refine (HB.out _).mono ?_
      rintro e' w' ⟨rfl, rfl⟩
      go_wp2_with fail
      refine (part_any (a * b) 65535 _ (by omega) (by omega) (by omega) (by omega)).mono ?_
      rintro e' w1 ⟨v1, rfl, h1, g1⟩
      have H1 := Lib.hid h1
      clear h1
      go_wp2_with fail
      refine (round_part v1 (a * b) 65535 _ H1.out ab0 (by omega) (by omega) (by omega)).mono ?_
      rintro e' w2 ⟨rfl, g2⟩
      go_wp2_with fail
      go_returns
      exact ⟨by rw [e.out.1, e.out.2]; rfl, g1.trans g2⟩

/-- What Octet gives. -/
def ocV (n : Int) : Int := if isLev n = true then rnd n 65535 255 else 0
def ocX (n : Int) : Int := if isLev n = true then 0 else 1
end Go.Proofs.Ytdmpdcggepfaiaa
