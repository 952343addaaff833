/- The reference's Scale, Mix, Octet, FromOctet; the program's Mix and its errors. -/
import Derived.Test.YtdienaigmkaheaaRefL
import Derived.Test.YtdienaigmkaheaaScale
namespace Go.Proofs.Ytdienaigmkaheaa
open Go.RowKit

/-- What Scale gives. -/
def scV (a b : Int) : Int := if (isLev a && isLev b) = true then rnd b 65535 a else 0
def scX (a b : Int) : Int := if (isLev a && isLev b) = true then 0 else 1
theorem scale_prog (a b : Int) (w : World) :
    Calls Try.prog 6 #[.int .i64 a, .int .i64 b] w fun e w' => e = .returned (.tuple #[.int .i64 (scV a b), .int .i64 (scX a b)]) ∧ Gr w w' := by
  unfold scV scX
  cases h : (isLev a && isLev b) with
  | true =>
    have h2 : isLev a = true ∧ isLev b = true := by simpa using h
    rw [if_pos rfl, if_pos rfl]
    exact scale_any a b w h2.1 h2.2
  | false =>
    rw [if_neg (by decide), if_neg (by decide)]
    exact scale_err a b w h

set_option maxHeartbeats 800000 in
theorem scale_ref (a b : Int) (w : World) :
    Calls Try.prog 7 #[.int .i64 a, .int .i64 b] w fun e w' => e = .returned (.tuple #[.int .i64 (scV a b), .int .i64 (scX a b)]) ∧ Bl w w' := by
  have hA := fun w => isLevel_ref a w
  have hB := fun w => isLevel_ref b w
  cases ha : isLev a with
  | false =>
    have e : Hid (scV a b = 0 ∧ scX a b = 1) := by unfold scV scX; rw [ha]; exact ⟨rfl, rfl⟩
    rw [ha] at hA
    have HA := Lib.hid hA
    clear hA hB ha
    go_enter Try.func7, Try.ntmps7
    go_wp2_with fail
    refine (HA.out _).mono ?_
    rintro e' w' ⟨rfl, rfl⟩
    go_wp2_with fail
    go_returns
    exact ⟨by rw [e.out.1, e.out.2]; rfl, Bl.refl _⟩
  | true =>
    rw [ha] at hA
    have HA := Lib.hid hA
    cases hb : isLev b with
    | false =>
      have e : Hid (scV a b = 0 ∧ scX a b = 1) := by unfold scV scX; rw [ha, hb]; exact ⟨rfl, rfl⟩
      rw [hb] at hB
      have HB := Lib.hid hB
      clear hA hB ha hb
      go_enter Try.func7, Try.ntmps7
      go_wp2_with fail
      refine (HA.out _).mono ?_
      rintro e' w' ⟨rfl, rfl⟩
      go_wp2_with fail
      refine (HB.out _).mono ?_
      rintro e' w' ⟨rfl, rfl⟩
      go_wp2_with fail
      go_returns
      exact ⟨by rw [e.out.1, e.out.2]; rfl, Bl.refl _⟩
    | true =>
      have e : Hid (scV a b = rdF (a * b) 65535 ∧ scX a b = 0) := by unfold scV scX; rw [ha, hb]; exact ⟨rd_rnd.symm, rfl⟩
      rw [hb] at hB
      have HB := Lib.hid hB
      obtain ⟨a0, a1⟩ := isLev_iff.1 ha
      obtain ⟨b0, b1⟩ := isLev_iff.1 hb
      have ab0 := Int.mul_nonneg a0 b0
      have ab1 : a * b ≤ 65535 * 65535 := Int.mul_le_mul a1 b1 b0 (by omega)
      clear hA hB ha hb
      go_enter Try.func7, Try.ntmps7
      go_wp2_with fail
      refine (HA.out _).mono ?_
      rintro e' w' ⟨rfl, rfl⟩
      go_wp2_with fail
      refine (HB.out _).mono ?_
      rintro e' w' ⟨rfl, rfl⟩
      go_wp2_with fail
      refine (part_any (a * b) 65535 _ (by omega) (by omega) (by omega) (by omega)).mono ?_
      rintro e' w1 ⟨v1, rfl, h1, g1⟩
      have H1 := Lib.hid h1
      clear h1
      go_wp2_with fail
      refine (round_part v1 (a * b) 65535 _ H1.out ab0 (by omega) (by omega) (by omega)).mono ?_
      rintro e' w2 ⟨rfl, g2⟩
      go_wp2_with fail
      go_returns
      exact ⟨by rw [e.out.1, e.out.2]; rfl, g1.trans g2⟩

/-- What Octet gives. -/
def ocV (n : Int) : Int := if isLev n = true then rnd n 65535 255 else 0
def ocX (n : Int) : Int := if isLev n = true then 0 else 1
set_option maxHeartbeats 400000 in
theorem octet_prog (n : Int) (w : World) :
    Calls Try.prog 10 #[.int .i64 n] w fun e w' => e = .returned (.tuple #[.int .u8 (ocV n), .int .i64 (ocX n)]) ∧ Gr w w' := by
  unfold ocV ocX
  cases hn : isLev n with
  | true => rw [if_pos rfl, if_pos rfl]; exact octet_any n w hn
  | false =>
    rw [if_neg (by decide), if_neg (by decide)]
    have hI := fun w => isLevel_any n w
    rw [hn] at hI
    have HI := Lib.hid hI
    clear hI hn
    go_enter Try.func10, Try.ntmps10
    go_wp2_with fail
    refine (HI.out _).mono ?_
    rintro e w' ⟨rfl, rfl⟩
    go_wp2_with fail
    go_returns
    exact ⟨rfl, Gr.refl _⟩
set_option maxHeartbeats 400000 in
theorem octet_ref (n : Int) (w : World) :
    Calls Try.prog 11 #[.int .i64 n] w fun e w' => e = .returned (.tuple #[.int .u8 (ocV n), .int .i64 (ocX n)]) ∧ Bl w w' := by
  have hI := fun w => isLevel_ref n w
  cases hn : isLev n with
  | true =>
    rw [hn] at hI
    have HI := Lib.hid hI
    obtain ⟨n0, n1⟩ := isLev_iff.1 hn
    have e : Hid (ocV n = rnd n 65535 255 ∧ ocX n = 0) := by unfold ocV ocX; rw [hn]; exact ⟨rfl, rfl⟩
    have k0 := rnd_nonneg (n := n) (d := 65535) (s := 255) (by omega) n0 (by omega)
    have k1 := rnd_le (n := n) (d := 65535) (s := 255) (by omega) n1 (by omega)
    have hrd : rdF (n * 255) 65535 = rnd n 65535 255 := by rw [Int.mul_comm]; exact rd_rnd
    have HR := fun v w h => round_part v (n * 255) 65535 w h (by omega) (by omega) (by omega) (by omega)
    rw [hrd] at HR
    generalize rnd n 65535 255 = r at *
    have HR := Lib.hid HR
    clear hI hn hrd
    go_enter Try.func11, Try.ntmps11
    go_wp2_with fail
    refine (HI.out _).mono ?_
    rintro e' w' ⟨rfl, rfl⟩
    go_wp2_with fail
    refine (part_any (n * 255) 65535 _ (by omega) (by omega) (by omega) (by omega)).mono ?_
    rintro e' w1 ⟨v1, rfl, h1, g1⟩
    have H1 := Lib.hid h1
    clear h1
    go_wp2_with fail
    refine (HR.out _ _ H1.out).mono ?_
    rintro e' w2 ⟨rfl, g2⟩
    go_wp2_with fail
    go_returns
    exact ⟨by rw [e.out.1, e.out.2]; rfl, g1.trans g2⟩
  | false =>
    rw [hn] at hI
    have HI := Lib.hid hI
    have e : Hid (ocV n = 0 ∧ ocX n = 1) := by unfold ocV ocX; rw [hn]; exact ⟨rfl, rfl⟩
    clear hI hn
    go_enter Try.func11, Try.ntmps11
    go_wp2_with fail
    refine (HI.out _).mono ?_
    rintro e' w' ⟨rfl, rfl⟩
    go_wp2_with fail
    go_returns
    exact ⟨by rw [e.out.1, e.out.2]; rfl, Bl.refl _⟩
set_option maxHeartbeats 400000 in
theorem from_prog (b : Int) (w : World) (h0 : 0 ≤ b) (h1 : b ≤ 255) :
    Calls Try.prog 12 #[.int .u8 b] w fun e w' => e = .returned (.int .i64 (257 * b)) ∧ w = w' := by
  go_enter Try.func12, Try.ntmps12
  go_wp2
  go_ret
  exact ⟨rfl, rfl⟩
set_option maxHeartbeats 400000 in
theorem from_ref (b : Int) (w : World) (h0 : 0 ≤ b) (h1 : b ≤ 255) :
    Calls Try.prog 13 #[.int .u8 b] w fun e w' => e = .returned (.int .i64 (257 * b)) ∧ w = w' := by
  go_enter Try.func13, Try.ntmps13
  go_wp2
  go_ret
  exact ⟨ret_int (by omega), rfl⟩
end Go.Proofs.Ytdienaigmkaheaa
