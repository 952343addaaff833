/- Scale and Octet. -/
import Derived.Test.YtdienaigmkaheaaLev
namespace Go.Proofs.Ytdienaigmkaheaa
open Go.RowKit Go.Sort

set_option maxHeartbeats 400000 in
theorem octet_any (n : Int) (w : World) (hn : isLev n = true) :
    Calls Try.prog 10 #[.int .i64 n] w fun e w' => e = .returned (.tuple #[.int .u8 (rnd n 65535 255), .int .i64 0]) ∧ Gr w w' := by
  have hI := fun w => isLevel_any n w
  rw [hn] at hI
  have hb := isLev_iff.1 hn
  obtain ⟨hb1, hb2⟩ := hb
  have k0 := rnd_nonneg (n := n) (d := 65535) (s := 255) (by omega) hb1 (by omega)
  have k1 := rnd_le (n := n) (d := 65535) (s := 255) (by omega) hb2 (by omega)
  clear hn
  go_enter Try.func10, Try.ntmps10
  go_wp2_with (first | (go_at_call 27; refine (hI _).mono ?_; rintro e w' ⟨rfl, rfl⟩) | (go_at_call 18; refine (share_any n 65535 _ hb1 (by omega) (by omega) (by omega)).mono ?_; rintro e w1 ⟨nh, nl, dh, dl, rfl, HH, hg⟩) | (go_at_call 19; refine (of_any nh nl dh dl n 65535 255 _ HH.1 HH.2 ⟨hb1, hb2, by omega, by omega⟩ (by omega) (by omega)).mono ?_; rintro e w2 ⟨rfl, hg2⟩))
  go_returns
  exact ⟨rfl, hg.trans hg2⟩

set_option maxHeartbeats 400000 in
theorem scale_any (a b : Int) (w : World) (ha : isLev a = true) (hb : isLev b = true) :
    Calls Try.prog 6 #[.int .i64 a, .int .i64 b] w fun e w' => e = .returned (.tuple #[.int .i64 (rnd b 65535 a), .int .i64 0]) ∧ Gr w w' := by
  have h2 := fun w => are2 a b w
  rw [ha, hb] at h2
  obtain ⟨a0, a1⟩ := isLev_iff.1 ha
  obtain ⟨b0, b1⟩ := isLev_iff.1 hb
  have H2 := Lib.hid h2
  clear ha hb h2
  go_enter Try.func6, Try.ntmps6
  go_wp2_with fail
  refine (H2.out _).mono ?_
  rintro e w' ⟨rfl, rfl⟩
  go_wp2_with (first | (go_at_call 18; refine (share_any b 65535 _ b0 (by omega) (by omega) (by omega)).mono ?_; rintro e w1 ⟨nh, nl, dh, dl, rfl, HH, hg⟩) | (go_at_call 19; refine (of_any nh nl dh dl b 65535 a _ HH.1 HH.2 ⟨b0, b1, by omega, by omega⟩ a0 a1).mono ?_; rintro e w2 ⟨rfl, hg2⟩))
  go_returns
  exact ⟨rfl, (((Gr.refl w).alloc _).trans hg).trans hg2⟩

set_option maxHeartbeats 400000 in
theorem scale_err (a b : Int) (w : World) (h : (isLev a && isLev b) = false) :
    Calls Try.prog 6 #[.int .i64 a, .int .i64 b] w fun e w' => e = .returned (.tuple #[.int .i64 0, .int .i64 1]) ∧ Gr w w' := by
  have h2 := fun w => are2 a b w
  rw [h] at h2
  have H2 := Lib.hid h2
  clear h h2
  go_enter Try.func6, Try.ntmps6
  go_wp2_with fail
  refine (H2.out _).mono ?_
  rintro e w' ⟨rfl, rfl⟩
  go_wp2
  go_returns
  exact ⟨rfl, (Gr.refl w).alloc _⟩
end Go.Proofs.Ytdienaigmkaheaa
