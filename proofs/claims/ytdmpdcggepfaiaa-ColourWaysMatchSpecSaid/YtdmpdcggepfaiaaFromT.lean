/- The colour of a tone: fromTone and its closure. -/
import Derived.Test.YtdmpdcggepfaiaaTone
namespace Go.Proofs.Ytdmpdcggepfaiaa
open Go.RowKit Go.Sort

theorem less_bd {V S f : Int} (v0 : 0 ≤ V) (v1 : V ≤ 65535) (s0 : 0 ≤ S) (s1 : S ≤ 65535) (f0 : 0 ≤ f) (f1 : f ≤ 65535) :
    0 ≤ S * f ∧ S * f ≤ 4294836225 ∧ 0 ≤ V * (4294836225 - S * f) ∧ V * (4294836225 - S * f) ≤ 281462092005375 := by
  have h0 := Int.mul_nonneg s0 f0
  have h1 := Int.mul_le_mul s1 f1 f0 (by omega)
  have h2 := Int.mul_nonneg v0 (show 0 ≤ 4294836225 - S * f by omega)
  have h3 := Int.mul_le_mul v1 (show 4294836225 - S * f ≤ 4294836225 by omega) (by omega) (by omega)
  exact ⟨h0, h1, h2, by omega⟩

set_option maxHeartbeats 400000 in
theorem lessT_any (V S f : Int) (b : Nat) (w : World) (v0 : 0 ≤ V) (v1 : V ≤ 65535) (s0 : 0 ≤ S) (s1 : S ≤ 65535) (f0 : 0 ≤ f) (f1 : f ≤ 65535)
    (c1 : w.cell? ⟨b, 1, none⟩ = some (.int .i64 S)) (c2 : w.cell? ⟨b, 2, none⟩ = some (.int .i64 V)) :
    Calls Try.prog 44 #[.int .i64 f, .pointer (some ⟨b, 0, none⟩)] w fun e w' => e = .returned (.int .i64 (lessV V S f)) ∧ w' = w := by
  obtain ⟨p0, p1, p2, p3⟩ := less_bd v0 v1 s0 s1 f0 f1
  have hR := Lib.hid (fun w => rounded_any (V * (4294836225 - S * f)) 4294836225 w p2 (by omega) (by omega) (by omega))
  have hw1 : IntKind.i64.wrap (S * f) = S * f := IntWalk.i64_in _ (by omega)
  have hw2 : IntKind.i64.wrap (V * (4294836225 - S * f)) = V * (4294836225 - S * f) := IntWalk.i64_in _ (by omega)
  go_enter Try.func44, Try.ntmps44
  go_wp2_with ((with_reducible refine (hR.out _).mono ?_); rintro e w' ⟨rfl, rfl⟩)
  go_returns
  exact ⟨rfl, rfl⟩


set_option maxHeartbeats 3200000 in
theorem fromTone_any (H S V : Int) (w : World) (h0 : 0 ≤ H) (h1 : H ≤ 393209) (s0 : 0 ≤ S) (s1 : S ≤ 65535) (v0 : 0 ≤ V) (v1 : V ≤ 65535) :
    Calls Try.prog 21 #[.agg #[.int .i64 H, .int .i64 S, .int .i64 V]] w fun e w' => e = .returned (.agg #[.int .i64 (fromT H S V).1, .int .i64 (fromT H S V).2.1, .int .i64 (fromT H S V).2.2]) ∧ Gr w w' := by
  have f0 : 0 ≤ H % 65535 := by omega
  have f1 : H % 65535 ≤ 65535 := by omega
  have f2 : 0 ≤ 65535 - H % 65535 := by omega
  have hL := Lib.hid (fun f w b (a0 : 0 ≤ f) (a1 : f ≤ 65535) c1 c2 => lessT_any V S f b w v0 v1 s0 s1 a0 a1 c1 c2)
  have key : Hid (∃ k x y z, (k = 0 ∨ k = 1 ∨ k = 2 ∨ k = 3 ∨ k = 4 ∨ k = 5) ∧ H / 65535 = k ∧ fromT H S V = (x, y, z) ∧ (x, y, z) = col k (H % 65535) S V) :=
    ⟨H / 65535, (fromT H S V).1, (fromT H S V).2.1, (fromT H S V).2.2, by omega, rfl, rfl, rfl⟩
  have hsub : IntKind.i64.wrap (65535 - H % 65535) = 65535 - H % 65535 := IntWalk.i64_in _ (by omega)
  obtain ⟨k, x, y, z, hk, hq, hT, hc⟩ := key.out
  have HT := Lib.hid hT
  have HC := Lib.hid hc
  clear key hT hc
  rcases hk with rfl | rfl | rfl | rfl | rfl | rfl
  all_goals
    go_enter Try.func21, Try.ntmps21
    go_wp2
    go_quiet (fail)
    go_wp2
    go_quiet ((go_at_call 44; exact second_quiet rfl (hL.out _ _ _ (by omega) (by omega) (by simp) (by simp))))
    go_wp2
    refine bodyPost_ret (v := .agg #[.int .i64 (fromT H S V).1, .int .i64 (fromT H S V).2.1, .int .i64 (fromT H S V).2.2]) ?_ rfl ⟨rfl, ?_⟩
    · rw [HT.out, HC.out]; simp [results, Try.results21, go_sem, col]
    · exact set3g (by simp) ((((Gr.refl w).alloc _).alloc _).drewN _) _ _ _
end Go.Proofs.Ytdmpdcggepfaiaa
