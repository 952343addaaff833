/- ToneOf and FromTone, with their errors. -/
import Derived.Test.YtdmpdcggepfaiaaFromT
namespace Go.Proofs.Ytdmpdcggepfaiaa
open Go.RowKit Go.Sort

theorem tone_bd {r g b : Int} (hr : 0 ≤ r ∧ r ≤ 65535) (hg : 0 ≤ g ∧ g ≤ 65535) (hb : 0 ≤ b ∧ b ≤ 65535) :
    (0 ≤ (toneC r g b).1 ∧ (toneC r g b).1 ≤ 393209) ∧ (0 ≤ (toneC r g b).2.1 ∧ (toneC r g b).2.1 ≤ 65535) ∧ (0 ≤ (toneC r g b).2.2 ∧ (toneC r g b).2.2 ≤ 65535) := by
  have m1 : 0 ≤ mn3 r g b := by unfold mn3; omega
  have m2 : mn3 r g b ≤ mx3 r g b := by unfold mn3 mx3; omega
  have m3 : mx3 r g b ≤ 65535 := by unfold mx3; omega
  unfold toneC
  split
  · exact ⟨by simp only; omega, by simp only; omega, by simp only; omega⟩
  · refine ⟨by simp only [hueC]; omega, ?_, by simp only; omega⟩
    simp only
    generalize mx3 r g b = M at *
    generalize mn3 r g b = m at *
    exact ⟨le_rdv (by omega) (by omega), rdv_le (by omega) (by omega)⟩

/-- What ToneOf gives. -/
def toneR (r g b : Int) : Int × Int × Int := if isCol r g b = true then toneC r g b else (0, 0, 0)
set_option maxHeartbeats 1600000 in
theorem ToneOf_any (r g b : Int) (w : World) :
    Calls Try.prog 7 #[.agg #[.int .i64 r, .int .i64 g, .int .i64 b]] w fun e w' => e = .returned (.tuple #[.agg #[.int .i64 (toneR r g b).1, .int .i64 (toneR r g b).2.1, .int .i64 (toneR r g b).2.2], .int .i64 (ckCol r g b)]) ∧ Gr w w' := by
  have hC := fun w => check_col r g b w
  cases h : isCol r g b with
  | false =>
    have e : Hid (toneR r g b = (0, 0, 0) ∧ ckCol r g b = 1) := by show _ ∧ _; unfold toneR ckCol; rw [h]; exact ⟨rfl, rfl⟩
    rw [e.out.2] at hC ⊢
    rw [e.out.1]
    have HC := Lib.hid hC
    clear hC h
    go_enter Try.func7, Try.ntmps7
    go_wp2_with ((with_reducible refine (HC.out _).mono ?_); rintro e w' ⟨rfl, g1⟩; obtain ⟨⟨k0, k1, k2⟩, f0, f1, f2⟩ := own3g (n := w.heap.size + 1) (by simp) g1)
    refine bodyPost_ret (v := .tuple #[.agg #[.int .i64 0, .int .i64 0, .int .i64 0], .int .i64 1]) ?_ rfl ⟨rfl, ?_⟩
    · simp [results, Try.results7, go_sem, k0, k1, k2]
    · exact set3g (by simp) ((((Gr.refl w).alloc _).alloc _).trans g1) _ _ _
  | true =>
    obtain ⟨hr, hg, hb⟩ := isCol_iff.1 h
    have e : Hid (toneR r g b = toneC r g b ∧ ckCol r g b = 0) := by show _ ∧ _; unfold toneR ckCol; rw [h]; exact ⟨rfl, rfl⟩
    rw [e.out.2] at hC ⊢
    rw [e.out.1]
    have HC := Lib.hid hC
    have HT := Lib.hid (fun w => toneOf_any r g b w hr hg hb)
    clear hC h hr hg hb
    generalize toneC r g b = T at *
    go_enter Try.func7, Try.ntmps7
    go_wp2_with (first | (go_at_call 11; ((with_reducible refine (HC.out _).mono ?_); rintro e w1 ⟨rfl, g1⟩; obtain ⟨c0, c1, c2⟩ := (own3g (n := w.heap.size) rfl (((Gr.refl (w.alloc (.cells #[.int .i64 r, .int .i64 g, .int .i64 b] 23))).alloc _).trans g1)).1)) | (go_at_call 18; ((with_reducible refine (HT.out _).mono ?_); rintro e w2 ⟨rfl, g2⟩; obtain ⟨⟨k0, k1, k2⟩, f0, f1, f2⟩ := own3g (n := w.heap.size + 1) (by simp) (g1.trans g2))))
    refine bodyPost_ret (v := .tuple #[.agg #[.int .i64 T.1, .int .i64 T.2.1, .int .i64 T.2.2], .int .i64 0]) ?_ rfl ⟨rfl, ?_⟩
    · simp [results, Try.results7, go_sem, k0, k1, k2]
    · exact set3g (by simp) (((((Gr.refl w).alloc _).alloc _).trans g1).trans g2) _ _ _

/-- Is this a tone? -/
def isTon (H S V : Int) : Bool := (decide (0 ≤ H) && decide (H ≤ 393209)) && isLev S && isLev V
def fromR (H S V : Int) : Int × Int × Int := if isTon H S V = true then fromT H S V else (0, 0, 0)
theorem isTon_iff {H S V : Int} : isTon H S V = true ↔ (0 ≤ H ∧ H ≤ 393209) ∧ (0 ≤ S ∧ S ≤ 65535) ∧ (0 ≤ V ∧ V ≤ 65535) := by
  unfold isTon; simp only [Bool.and_eq_true, decide_eq_true_eq, isLev_iff]; exact ⟨fun ⟨⟨a, b⟩, c⟩ => ⟨a, b, c⟩, fun ⟨a, b, c⟩ => ⟨⟨a, b⟩, c⟩⟩

set_option maxHeartbeats 3200000 in
theorem FromTone_ok (H S V : Int) (w : World) (h : isTon H S V = true) :
    Calls Try.prog 9 #[.agg #[.int .i64 H, .int .i64 S, .int .i64 V]] w fun e w' => e = .returned (.tuple #[.agg #[.int .i64 (fromT H S V).1, .int .i64 (fromT H S V).2.1, .int .i64 (fromT H S V).2.2], .int .i64 0]) ∧ Gr w w' := by
  obtain ⟨⟨h0, h1⟩, ⟨s0, s1⟩, v0, v1⟩ := isTon_iff.1 h
  have HS := Lib.hid (isLevel_is S true (isLev_iff.2 ⟨s0, s1⟩))
  have HV := Lib.hid (isLevel_is V true (isLev_iff.2 ⟨v0, v1⟩))
  have HT := Lib.hid (fun w => fromTone_any H S V w h0 h1 s0 s1 v0 v1)
  have t1 : (decide (H < 0)) = false := by simpa using h0
  have t2 : (decide (393210 ≤ H)) = false := by simp; omega
  have hh : H < 393210 := by omega
  clear h
  generalize fromT H S V = T at *
  go_enter Try.func9, Try.ntmps9
  go_wp2_with (first | (go_at_call 20; (first | ((with_reducible refine (HS.out _).mono ?_); rintro e w' ⟨rfl, rfl⟩) | ((with_reducible refine (HV.out _).mono ?_); rintro e w' ⟨rfl, rfl⟩))) | (go_at_call 21; ((with_reducible refine (HT.out _).mono ?_); rintro e w2 ⟨rfl, g2⟩; obtain ⟨⟨k0, k1, k2⟩, f0, f1, f2⟩ := own3g (n := w.heap.size + 1) (by simp) g2)))
  refine bodyPost_ret (v := .tuple #[.agg #[.int .i64 T.1, .int .i64 T.2.1, .int .i64 T.2.2], .int .i64 0]) ?_ rfl ⟨rfl, ?_⟩
  · simp [results, Try.results9, go_sem, k0, k1, k2]
  · exact set3g (by simp) ((((Gr.refl w).alloc _).alloc _).trans g2) _ _ _

set_option maxHeartbeats 3200000 in
theorem FromTone_err (H S V : Int) (w : World) (h : isTon H S V = false) :
    Calls Try.prog 9 #[.agg #[.int .i64 H, .int .i64 S, .int .i64 V]] w fun e w' => e = .returned (.tuple #[.agg #[.int .i64 0, .int .i64 0, .int .i64 0], .int .i64 1]) ∧ Gr w w' := by
  have key : (H < 0) ∨ (393210 ≤ H) ∨ ((0 ≤ H ∧ H < 393210) ∧ isLev S = false) ∨ ((0 ≤ H ∧ H < 393210) ∧ isLev S = true ∧ isLev V = false) := by
    by_cases a : H < 0
    · exact .inl a
    · by_cases b : 393210 ≤ H
      · exact .inr (.inl b)
      · cases hS : isLev S with
        | false => exact .inr (.inr (.inl ⟨⟨by omega, by omega⟩, rfl⟩))
        | true =>
          cases hV : isLev V with
          | false => exact .inr (.inr (.inr ⟨⟨by omega, by omega⟩, rfl, rfl⟩))
          | true =>
            unfold isTon at h
            rw [hS, hV, decide_eq_true (show 0 ≤ H by omega), decide_eq_true (show H ≤ 393209 by omega)] at h
            cases h
  clear h
  rcases key with a | a | ⟨⟨a, b⟩, c⟩ | ⟨⟨a, b⟩, c, d⟩
  · have t1 : (decide (H < 0)) = true := by simpa using a
    go_enter Try.func9, Try.ntmps9
    go_wp2_with fail
    refine bodyPost_ret (v := .tuple #[.agg #[.int .i64 0, .int .i64 0, .int .i64 0], .int .i64 1]) ?_ rfl ⟨rfl, ?_⟩
    · simp [results, Try.results9, go_sem]
    · exact ((Gr.refl w).alloc _).alloc _
  · have t1 : (decide (H < 0)) = false := by simp; omega
    have t2 : (decide (393210 ≤ H)) = true := by simpa using a
    have t3 : 0 ≤ H := by omega
    go_enter Try.func9, Try.ntmps9
    go_wp2_with fail
    refine bodyPost_ret (v := .tuple #[.agg #[.int .i64 0, .int .i64 0, .int .i64 0], .int .i64 1]) ?_ rfl ⟨rfl, ?_⟩
    · simp [results, Try.results9, go_sem]
    · exact ((Gr.refl w).alloc _).alloc _
  · have HS := Lib.hid (isLevel_is S false c)
    have t1 : (decide (H < 0)) = false := by simpa using a
    have t2 : (decide (393210 ≤ H)) = false := by simp; omega
    clear c
    go_enter Try.func9, Try.ntmps9
    go_wp2_with (go_at_call 20; ((with_reducible refine (HS.out _).mono ?_); rintro e w' ⟨rfl, rfl⟩))
    refine bodyPost_ret (v := .tuple #[.agg #[.int .i64 0, .int .i64 0, .int .i64 0], .int .i64 1]) ?_ rfl ⟨rfl, ?_⟩
    · simp [results, Try.results9, go_sem]
    · exact ((Gr.refl w).alloc _).alloc _
  · have HS := Lib.hid (isLevel_is S true c)
    have HV := Lib.hid (isLevel_is V false d)
    have t1 : (decide (H < 0)) = false := by simpa using a
    have t2 : (decide (393210 ≤ H)) = false := by simp; omega
    clear c d
    go_enter Try.func9, Try.ntmps9
    go_wp2_with (go_at_call 20; (first | ((with_reducible refine (HS.out _).mono ?_); rintro e w' ⟨rfl, rfl⟩) | ((with_reducible refine (HV.out _).mono ?_); rintro e w' ⟨rfl, rfl⟩)))
    refine bodyPost_ret (v := .tuple #[.agg #[.int .i64 0, .int .i64 0, .int .i64 0], .int .i64 1]) ?_ rfl ⟨rfl, ?_⟩
    · simp [results, Try.results9, go_sem]
    · exact ((Gr.refl w).alloc _).alloc _

theorem FromTone_any (H S V : Int) (w : World) :
    Calls Try.prog 9 #[.agg #[.int .i64 H, .int .i64 S, .int .i64 V]] w fun e w' => e = .returned (.tuple #[.agg #[.int .i64 (fromR H S V).1, .int .i64 (fromR H S V).2.1, .int .i64 (fromR H S V).2.2], .int .i64 (if isTon H S V = true then 0 else 1)]) ∧ Gr w w' := by
  unfold fromR
  cases h : isTon H S V with
  | true => exact FromTone_ok H S V w h
  | false => exact FromTone_err H S V w h
end Go.Proofs.Ytdmpdcggepfaiaa
