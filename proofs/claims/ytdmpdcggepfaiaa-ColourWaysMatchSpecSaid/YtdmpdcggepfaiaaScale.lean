/- Scale and Octet. -/
import Derived.Test.YtdmpdcggepfaiaaLev
namespace Go.Proofs.Ytdmpdcggepfaiaa
open Go.RowKit Go.Sort

set_option maxHeartbeats 400000 in
theorem scale_any (a b : Int) (w : World) (ha : isLev a = true) (hb : isLev b = true) :
    Calls Try.prog 28 #[.int .i64 a, .int .i64 b] w fun e w' => e = .returned (.tuple #[.int .i64 (rnd b 65535 a), .int .i64 0]) ∧ Gr w w' := by
  have h2 := fun w => are2 a b w
  rw [ha, hb] at h2
  obtain ⟨a0, a1⟩ := isLev_iff.1 ha
  obtain ⟨b0, b1⟩ := isLev_iff.1 hb
  have H2 := Lib.hid h2
  clear ha hb h2
  go_enter Try.func28, Try.ntmps28
  go_wp2_with fail
  refine (H2.out _).mono ?_
  rintro e w' ⟨rfl, rfl⟩
  go_wp2_with (first | (go_at_call 49; refine (share_any b 65535 _ b0 (by omega) (by omega) (by omega)).mono ?_; rintro e w1 ⟨nh, nl, dh, dl, rfl, HH, hg⟩) | (go_at_call 50; refine (of_any nh nl dh dl b 65535 a _ HH.1 HH.2 ⟨b0, b1, by omega, by omega⟩ a0 a1).mono ?_; rintro e w2 ⟨rfl, hg2⟩))
  go_returns
  exact ⟨rfl, (((Gr.refl w).alloc _).trans hg).trans hg2⟩

set_option maxHeartbeats 400000 in
theorem scale_err (a b : Int) (w : World) (h : (isLev a && isLev b) = false) :
    Calls Try.prog 28 #[.int .i64 a, .int .i64 b] w fun e w' => e = .returned (.tuple #[.int .i64 0, .int .i64 1]) ∧ Gr w w' := by
  have h2 := fun w => are2 a b w
  rw [h] at h2
  have H2 := Lib.hid h2
  clear h h2
  go_enter Try.func28, Try.ntmps28
  go_wp2_with fail
  refine (H2.out _).mono ?_
  rintro e w' ⟨rfl, rfl⟩
  go_wp2
  go_returns
  exact ⟨rfl, (Gr.refl w).alloc _⟩
end Go.Proofs.Ytdmpdcggepfaiaa
