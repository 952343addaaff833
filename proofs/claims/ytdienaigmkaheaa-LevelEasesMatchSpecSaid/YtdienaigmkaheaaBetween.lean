/- Between two levels. -/
import Derived.Test.YtdienaigmkaheaaRest
namespace Go.Proofs.Ytdienaigmkaheaa
open Go.RowKit Go.Sort

set_option maxHeartbeats 800000 in
theorem between_any (nh nl dh dl N D a b : Int) (w : World) (HN : Wd nh nl N) (HD : Wd dh dl D) (hR : RaOk N D) (a0 : 0 ≤ a) (a1 : a ≤ 65535) (b0 : 0 ≤ b) (b1 : b ≤ 65535) :
    Calls Try.prog 24 #[.agg #[.int .u64 nh, .int .u64 nl, .int .u64 dh, .int .u64 dl], .int .i64 a, .int .i64 b] w fun e w' => e = .returned (.int .i64 (btw N D a b)) ∧ Gr w w' := by
  obtain ⟨r1, r2, r3, r4⟩ := hR
  have HN' := Lib.hid HN
  have HD' := Lib.hid HD
  have HR : Hid (RaOk N D) := ⟨r1, r2, r3, r4⟩
  have HR2 : Hid (RaOk (D - N) D) := ⟨by omega, by omega, r3, r4⟩
  have HL : Hid (N ≤ D) := r2
  by_cases hlt : b < a
  · have q0 := rnd_nonneg (n := D - N) (d := D) (s := a - b) r3 (by omega) (by omega)
    have q1 := rnd_le (n := D - N) (d := D) (s := a - b) r3 (by omega) (by omega)
    clear HN HD r1 r2 r3 r4
    go_enter Try.func24, Try.ntmps24
    go_wp2_with fail
    refine (rest_any nh nl dh dl N D _ HN'.out HD'.out HL.out).mono ?_
    rintro e w1 ⟨xh, xl, yh, yl, rfl, HX, g1⟩
    have HX' := Lib.hid HX
    clear HX
    go_wp2_with fail
    refine (of_any xh xl yh yl (D - N) D (a - b) _ HX'.out.1 HX'.out.2 HR2.out (by omega) (by omega)).mono ?_
    rintro e w2 ⟨rfl, g2⟩
    go_wp2
    go_returns
    exact ⟨ret_int (by rw [btw, if_pos hlt]), by first | exact g1.trans g2 | exact ((Gr.refl _).alloc _).trans (g1.trans g2)⟩
  · have q0 := rnd_nonneg (n := N) (d := D) (s := b - a) r3 (by omega) (by omega)
    have q1 := rnd_le (n := N) (d := D) (s := b - a) r3 (by omega) (by omega)
    clear HN HD r1 r2 r3 r4
    go_enter Try.func24, Try.ntmps24
    go_wp2_with fail
    refine (of_any nh nl dh dl N D (b - a) _ HN'.out HD'.out HR.out (by omega) (by omega)).mono ?_
    rintro e w2 ⟨rfl, g2⟩
    go_wp2
    go_returns
    exact ⟨ret_int (by rw [btw, if_neg (by omega)]), by first | exact g2 | exact ((Gr.refl _).alloc _).trans g2⟩
end Go.Proofs.Ytdienaigmkaheaa
