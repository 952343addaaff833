/- Ways between colours: turns, mix, what the ways are made of. -/
import Derived.Test.YtdmpdcggepfaiaaToneS
import Derived.Test.YtdmpdcggepfaiaaMixF
import Derived.Deep.RegionHeld3
import Derived.Deep.DeepCutAuto
namespace Go.Proofs.Ytdmpdcggepfaiaa
open Go.RowKit Go.Sort

def shortT (u : Int) : Int := if u ≤ 196605 then u else u - 393210
def longT (u : Int) : Int := if 196605 < u ∨ u = 0 then u else u - 393210
set_option maxHeartbeats 400000 in
theorem shortTurn_any (u : Int) (w : World) (h0 : 0 ≤ u) (h1 : u ≤ 393209) :
    Calls Try.prog 53 #[.int .i64 u] w fun e w' => e = .returned (.int .i64 (shortT u)) ∧ w = w' := by
  by_cases h : u ≤ 196605
  · have e : Hid (shortT u = u) := by show _ = _; unfold shortT; rw [if_pos h]
    go_enter Try.func53, Try.ntmps53
    go_wp2
    go_returns
    exact ⟨ret_int e.out.symm, rfl⟩
  · have e : Hid (shortT u = u - 393210) := by show _ = _; unfold shortT; rw [if_neg h]
    go_enter Try.func53, Try.ntmps53
    go_wp2
    go_returns
    exact ⟨ret_int e.out.symm, rfl⟩
set_option maxHeartbeats 400000 in
theorem longTurn_any (u : Int) (w : World) (h0 : 0 ≤ u) (h1 : u ≤ 393209) :
    Calls Try.prog 54 #[.int .i64 u] w fun e w' => e = .returned (.int .i64 (longT u)) ∧ w = w' := by
  by_cases h : 196605 < u
  · have e : Hid (longT u = u) := by show _ = _; unfold longT; rw [if_pos (.inl h)]
    have t1 : decide (196605 < u) = true := by simpa using h
    go_enter Try.func54, Try.ntmps54
    go_wp2
    go_returns
    exact ⟨ret_int e.out.symm, rfl⟩
  · have t1 : decide (196605 < u) = false := by simpa using h
    by_cases h' : u = 0
    · have e : Hid (longT u = u) := by show _ = _; unfold longT; rw [if_pos (.inr h')]
      have t2 : (u == 0) = true := by simpa using h'
      clear h'
      go_enter Try.func54, Try.ntmps54
      go_wp2
      go_returns
      exact ⟨ret_int e.out.symm, rfl⟩
    · have e : Hid (longT u = u - 393210) := by show _ = _; unfold longT; rw [if_neg (by omega)]
      have t2 : (u == 0) = false := by simpa using h'
      go_enter Try.func54, Try.ntmps54
      go_wp2
      go_returns
      exact ⟨ret_int e.out.symm, rfl⟩

set_option maxHeartbeats 400000 in
theorem mix_col (a b p q : Int) (w : World) :
    Calls Try.prog 72 #[.int .i64 a, .int .i64 b, .int .i64 p, .int .i64 q] w fun e w' => e = .returned (.int .i64 (mxV a b p q)) ∧ Gr w w' := by
  have H := Lib.hid (fun w => mix_prog a b p q w)
  go_enter Try.func72, Try.ntmps72
  go_wp2_with ((with_reducible refine (H.out _).mono ?_); rintro e w1 ⟨rfl, g1⟩)
  go_returns
  exact ⟨rfl, g1⟩
set_option maxHeartbeats 400000 in
theorem red_any (r g b : Int) (w : World) : Calls Try.prog 45 #[.agg #[.int .i64 r, .int .i64 g, .int .i64 b]] w fun e w' => e = .returned (.int .i64 r) ∧ Gr w w' := by
  go_enter Try.func45, Try.ntmps45
  go_wp2
  go_returns
  exact ⟨rfl, (Gr.refl w).alloc _⟩
set_option maxHeartbeats 400000 in
theorem green_any (r g b : Int) (w : World) : Calls Try.prog 46 #[.agg #[.int .i64 r, .int .i64 g, .int .i64 b]] w fun e w' => e = .returned (.int .i64 g) ∧ Gr w w' := by
  go_enter Try.func46, Try.ntmps46
  go_wp2
  go_returns
  exact ⟨rfl, (Gr.refl w).alloc _⟩
set_option maxHeartbeats 400000 in
theorem blue_any (r g b : Int) (w : World) : Calls Try.prog 47 #[.agg #[.int .i64 r, .int .i64 g, .int .i64 b]] w fun e w' => e = .returned (.int .i64 b) ∧ Gr w w' := by
  go_enter Try.func47, Try.ntmps47
  go_wp2
  go_returns
  exact ⟨rfl, (Gr.refl w).alloc _⟩

set_option maxHeartbeats 800000 in
theorem checkBoth_any (r g b x y z : Int) (w : World) :
    Calls Try.prog 25 #[.agg #[.int .i64 r, .int .i64 g, .int .i64 b], .agg #[.int .i64 x, .int .i64 y, .int .i64 z]] w fun e w' => e = .returned (.int .i64 (if (isCol r g b && isCol x y z) = true then 0 else 1)) ∧ Gr w w' := by
  have h1 := fun w => check_col r g b w
  have h2 := fun w => check_col x y z w
  unfold ckCol at h1 h2
  cases ha : isCol r g b with
  | false =>
    rw [ha] at h1
    have H1 := Lib.hid h1
    clear h1 h2 ha
    go_enter Try.func25, Try.ntmps25
    go_wp2_with fail
    refine (H1.out _).mono ?_
    rintro e w1 ⟨rfl, g1⟩
    go_wp2_with fail
    go_returns
    exact ⟨rfl, (((Gr.refl w).alloc _).alloc _).trans g1⟩
  | true =>
    rw [ha] at h1
    cases hb : isCol x y z with
    | false =>
      rw [hb] at h2
      have H1 := Lib.hid h1
      have H2 := Lib.hid h2
      clear h1 h2 ha hb
      go_enter Try.func25, Try.ntmps25
      go_wp2_with fail
      refine (H1.out _).mono ?_
      rintro e w1 ⟨rfl, g1⟩
      obtain ⟨c0, c1, c2⟩ := (own3g (n := w.heap.size + 1) (by simp) g1).1
      go_wp2_with fail
      refine (H2.out _).mono ?_
      rintro e w2 ⟨rfl, g2⟩
      go_wp2_with fail
      go_returns
      exact ⟨rfl, ((((Gr.refl w).alloc _).alloc _).trans g1).trans g2⟩
    | true =>
      rw [hb] at h2
      have H1 := Lib.hid h1
      have H2 := Lib.hid h2
      clear h1 h2 ha hb
      go_enter Try.func25, Try.ntmps25
      go_wp2_with fail
      refine (H1.out _).mono ?_
      rintro e w1 ⟨rfl, g1⟩
      obtain ⟨c0, c1, c2⟩ := (own3g (n := w.heap.size + 1) (by simp) g1).1
      go_wp2_with fail
      refine (H2.out _).mono ?_
      rintro e w2 ⟨rfl, g2⟩
      go_wp2_with fail
      go_returns
      exact ⟨rfl, ((((Gr.refl w).alloc _).alloc _).trans g1).trans g2⟩
end Go.Proofs.Ytdmpdcggepfaiaa
