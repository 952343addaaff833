/- Ways between colours: journeyBy. -/
import Derived.Test.YtdmpdcggepfaiaaWayF
namespace Go.Proofs.Ytdmpdcggepfaiaa
open Go.RowKit Go.Sort

set_option maxRecDepth 100000 in
set_option maxHeartbeats 3200000 in
theorem journey_short (r g b x y z : Int) (w : World) (hr : 0 ≤ r ∧ r ≤ 65535) (hg : 0 ≤ g ∧ g ≤ 65535) (hb : 0 ≤ b ∧ b ≤ 65535) (hx : 0 ≤ x ∧ x ≤ 65535) (hy : 0 ≤ y ∧ y ≤ 65535) (hz : 0 ≤ z ∧ z ≤ 65535) :
    Calls Try.prog 31 #[.int .i64 2, .agg #[.int .i64 r, .int .i64 g, .int .i64 b], .agg #[.int .i64 x, .int .i64 y, .int .i64 z]] w
      (PAr (toneC r g b).1 (toneC r g b).2.1 (toneC r g b).2.2 (toneC x y z).1 (toneC x y z).2.1 (toneC x y z).2.2 (shortT (upH (toneC r g b).1 (toneC r g b).2.1 (toneC x y z).1 (toneC x y z).2.1)) w) := by
  have b1 := (tone_bd hr hg hb).1
  have b2 := (tone_bd hx hy hz).1
  have HT1 := Lib.hid (fun w => toneOf_any r g b w hr hg hb)
  have HT2 := Lib.hid (fun w => toneOf_any x y z w hx hy hz)
  generalize toneC r g b = T at *
  generalize toneC x y z = U at *
  have HA := Lib.hid (fun w => around_short T.1 T.2.1 T.2.2 U.1 U.2.1 U.2.2 w b1.1 b1.2 b2.1 b2.2)
  generalize shortT (upH T.1 T.2.1 U.1 U.2.1) = t at *
  clear b1 b2 hr hg hb hx hy hz
  have HK := Lib.hid (fun w' (k : Gr ((w.alloc (.cells #[.int .i64 r, .int .i64 g, .int .i64 b] 23)).alloc (.cells #[.int .i64 x, .int .i64 y, .int .i64 z] 23)) w') =>
    (show w'.cell? ⟨w.heap.size, 0, none⟩ = some (.int .i64 r) ∧ w'.cell? ⟨w.heap.size, 1, none⟩ = some (.int .i64 g) ∧ w'.cell? ⟨w.heap.size, 2, none⟩ = some (.int .i64 b) ∧ w'.cell? ⟨w.heap.size + 1, 0, none⟩ = some (.int .i64 x) ∧ w'.cell? ⟨w.heap.size + 1, 1, none⟩ = some (.int .i64 y) ∧ w'.cell? ⟨w.heap.size + 1, 2, none⟩ = some (.int .i64 z) from by
      obtain ⟨⟨a0, a1, a2⟩, _⟩ := own3g (n := w.heap.size) rfl (((Gr.refl (w.alloc (.cells #[.int .i64 r, .int .i64 g, .int .i64 b] 23))).alloc _).trans k)
      obtain ⟨⟨a3, a4, a5⟩, _⟩ := own3g (n := w.heap.size + 1) (by simp) k
      exact ⟨a0, a1, a2, a3, a4, a5⟩))
  have h0 : Gr w ((w.alloc (.cells #[.int .i64 r, .int .i64 g, .int .i64 b] 23)).alloc (.cells #[.int .i64 x, .int .i64 y, .int .i64 z] 23)) := ((Gr.refl w).alloc _).alloc _
  go_enter Try.func31, Try.ntmps31
  go_wp2
  go_region_held3 (fun w' => w'.cell? ⟨w.heap.size, 0, none⟩ = some (.int .i64 r) ∧ w'.cell? ⟨w.heap.size, 1, none⟩ = some (.int .i64 g) ∧ w'.cell? ⟨w.heap.size, 2, none⟩ = some (.int .i64 b) ∧ w'.cell? ⟨w.heap.size + 1, 0, none⟩ = some (.int .i64 x) ∧ w'.cell? ⟨w.heap.size + 1, 1, none⟩ = some (.int .i64 y) ∧ w'.cell? ⟨w.heap.size + 1, 2, none⟩ = some (.int .i64 z))
    ((refine HK.out _ ?_; ((repeat (first | with_reducible exact Gr.refl _ | with_reducible assumption | with_reducible refine Gr.drew ?_ | with_reducible refine Gr.alloc ?_ _ | with_reducible refine Gr.trans ?_ (by assumption))); done)))
    (first
      | (go_at_call 18; (with_reducible refine (HT1.out _).mono ?_); rintro e w1 ⟨rfl, g1⟩)
      | (go_at_call 18; (with_reducible refine (HT2.out _).mono ?_); rintro e w2 ⟨rfl, g2⟩)
      | (go_at_call 52; (with_reducible refine (HA.out _).mono ?_); rintro e w3 ⟨bf, bt, bo, rfl, hc, g3⟩; have HC := Lib.hid hc; clear hc))
  all_goals
    go_wp2_with fail
    go_returns
    exact ⟨bf, bt, bo, rfl, HC.out, by ((repeat (first | with_reducible exact Gr.refl _ | with_reducible assumption | with_reducible refine Gr.drew ?_ | with_reducible refine Gr.alloc ?_ _ | with_reducible refine Gr.trans ?_ (by assumption))); done)⟩

set_option maxRecDepth 100000 in
set_option maxHeartbeats 3200000 in
theorem journey_long (r g b x y z : Int) (w : World) (hr : 0 ≤ r ∧ r ≤ 65535) (hg : 0 ≤ g ∧ g ≤ 65535) (hb : 0 ≤ b ∧ b ≤ 65535) (hx : 0 ≤ x ∧ x ≤ 65535) (hy : 0 ≤ y ∧ y ≤ 65535) (hz : 0 ≤ z ∧ z ≤ 65535) :
    Calls Try.prog 31 #[.int .i64 3, .agg #[.int .i64 r, .int .i64 g, .int .i64 b], .agg #[.int .i64 x, .int .i64 y, .int .i64 z]] w
      (PAr (toneC r g b).1 (toneC r g b).2.1 (toneC r g b).2.2 (toneC x y z).1 (toneC x y z).2.1 (toneC x y z).2.2 (longT (upH (toneC r g b).1 (toneC r g b).2.1 (toneC x y z).1 (toneC x y z).2.1)) w) := by
  have b1 := (tone_bd hr hg hb).1
  have b2 := (tone_bd hx hy hz).1
  have HT1 := Lib.hid (fun w => toneOf_any r g b w hr hg hb)
  have HT2 := Lib.hid (fun w => toneOf_any x y z w hx hy hz)
  generalize toneC r g b = T at *
  generalize toneC x y z = U at *
  have HA := Lib.hid (fun w => around_long T.1 T.2.1 T.2.2 U.1 U.2.1 U.2.2 w b1.1 b1.2 b2.1 b2.2)
  generalize longT (upH T.1 T.2.1 U.1 U.2.1) = t at *
  clear b1 b2 hr hg hb hx hy hz
  have HK := Lib.hid (fun w' (k : Gr ((w.alloc (.cells #[.int .i64 r, .int .i64 g, .int .i64 b] 23)).alloc (.cells #[.int .i64 x, .int .i64 y, .int .i64 z] 23)) w') =>
    (show w'.cell? ⟨w.heap.size, 0, none⟩ = some (.int .i64 r) ∧ w'.cell? ⟨w.heap.size, 1, none⟩ = some (.int .i64 g) ∧ w'.cell? ⟨w.heap.size, 2, none⟩ = some (.int .i64 b) ∧ w'.cell? ⟨w.heap.size + 1, 0, none⟩ = some (.int .i64 x) ∧ w'.cell? ⟨w.heap.size + 1, 1, none⟩ = some (.int .i64 y) ∧ w'.cell? ⟨w.heap.size + 1, 2, none⟩ = some (.int .i64 z) from by
      obtain ⟨⟨a0, a1, a2⟩, _⟩ := own3g (n := w.heap.size) rfl (((Gr.refl (w.alloc (.cells #[.int .i64 r, .int .i64 g, .int .i64 b] 23))).alloc _).trans k)
      obtain ⟨⟨a3, a4, a5⟩, _⟩ := own3g (n := w.heap.size + 1) (by simp) k
      exact ⟨a0, a1, a2, a3, a4, a5⟩))
  have h0 : Gr w ((w.alloc (.cells #[.int .i64 r, .int .i64 g, .int .i64 b] 23)).alloc (.cells #[.int .i64 x, .int .i64 y, .int .i64 z] 23)) := ((Gr.refl w).alloc _).alloc _
  go_enter Try.func31, Try.ntmps31
  go_wp2
  go_region_held3 (fun w' => w'.cell? ⟨w.heap.size, 0, none⟩ = some (.int .i64 r) ∧ w'.cell? ⟨w.heap.size, 1, none⟩ = some (.int .i64 g) ∧ w'.cell? ⟨w.heap.size, 2, none⟩ = some (.int .i64 b) ∧ w'.cell? ⟨w.heap.size + 1, 0, none⟩ = some (.int .i64 x) ∧ w'.cell? ⟨w.heap.size + 1, 1, none⟩ = some (.int .i64 y) ∧ w'.cell? ⟨w.heap.size + 1, 2, none⟩ = some (.int .i64 z))
    ((refine HK.out _ ?_; ((repeat (first | with_reducible exact Gr.refl _ | with_reducible assumption | with_reducible refine Gr.drew ?_ | with_reducible refine Gr.alloc ?_ _ | with_reducible refine Gr.trans ?_ (by assumption))); done)))
    (first
      | (go_at_call 18; (with_reducible refine (HT1.out _).mono ?_); rintro e w1 ⟨rfl, g1⟩)
      | (go_at_call 18; (with_reducible refine (HT2.out _).mono ?_); rintro e w2 ⟨rfl, g2⟩)
      | (go_at_call 52; (with_reducible refine (HA.out _).mono ?_); rintro e w3 ⟨bf, bt, bo, rfl, hc, g3⟩; have HC := Lib.hid hc; clear hc))
  all_goals
    go_wp2_with fail
    go_returns
    exact ⟨bf, bt, bo, rfl, HC.out, by ((repeat (first | with_reducible exact Gr.refl _ | with_reducible assumption | with_reducible refine Gr.drew ?_ | with_reducible refine Gr.alloc ?_ _ | with_reducible refine Gr.trans ?_ (by assumption))); done)⟩

set_option maxHeartbeats 800000 in
theorem journey_straight (r g b x y z : Int) (w : World) :
    Calls Try.prog 31 #[.int .i64 1, .agg #[.int .i64 r, .int .i64 g, .int .i64 b], .agg #[.int .i64 x, .int .i64 y, .int .i64 z]] w (PSt r g b x y z w) := by
  go_enter Try.func31, Try.ntmps31
  go_wp2_with ((with_reducible refine (straight_any r g b x y z _).mono ?_); rintro e w3 ⟨b1, b2, rfl, hc, g3⟩; have HC := Lib.hid hc; clear hc)
  go_returns
  exact ⟨b1, b2, rfl, HC.out, by ((repeat (first | with_reducible exact Gr.refl _ | with_reducible assumption | with_reducible refine Gr.drew ?_ | with_reducible refine Gr.alloc ?_ _ | with_reducible refine Gr.trans ?_ (by assumption))); done)⟩
set_option maxHeartbeats 800000 in
theorem journey_none (k r g b x y z : Int) (w : World) (h1 : k ≠ 1) (h2 : k ≠ 2) (h3 : k ≠ 3) :
    Calls Try.prog 31 #[.int .i64 k, .agg #[.int .i64 r, .int .i64 g, .int .i64 b], .agg #[.int .i64 x, .int .i64 y, .int .i64 z]] w fun e w' => e = .returned .nilFunc ∧ Gr w w' := by
  have t1 : (k == 1) = false := by simpa using h1
  have t2 : (k == 2) = false := by simpa using h2
  have t3 : (k == 3) = false := by simpa using h3
  clear h1 h2 h3
  go_enter Try.func31, Try.ntmps31
  go_wp2
  go_returns
  exact ⟨rfl, ((Gr.refl w).alloc _).alloc _⟩
end Go.Proofs.Ytdmpdcggepfaiaa
