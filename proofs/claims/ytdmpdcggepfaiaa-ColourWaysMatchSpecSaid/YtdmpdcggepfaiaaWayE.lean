/- Ways between colours: the straight journey, and the one around the circle. -/
import Derived.Test.YtdmpdcggepfaiaaWayD
namespace Go.Proofs.Ytdmpdcggepfaiaa
open Go.RowKit Go.Sort

/-- Three cells in a row that hold ints. -/
def Cel3 (w : World) (b : Nat) (x y z : Int) : Prop := w.cell? ⟨b, 0, none⟩ = some (.int .i64 x) ∧ w.cell? ⟨b, 1, none⟩ = some (.int .i64 y) ∧ w.cell? ⟨b, 2, none⟩ = some (.int .i64 z)
theorem Cel3.gr {w w' : World} {b : Nat} {x y z : Int} (h : Cel3 w b x y z) (g : Gr w w') : Cel3 w' b x y z := ⟨g.cell h.1, g.cell h.2.1, g.cell h.2.2⟩

/-- A call that gives the straight journey. -/
def PSt (r g b x y z : Int) (w : World) (e : Ending) (w' : World) : Prop := ∃ b1 b2 : Nat, e = .returned (.func (.func 70) #[] #[.pointer (some ⟨b1, 0, none⟩), .pointer (some ⟨b2, 0, none⟩)]) ∧ (Cel3 w' b1 r g b ∧ Cel3 w' b2 x y z) ∧ Gr w w'
set_option maxHeartbeats 400000 in
theorem straight_any (r g b x y z : Int) (w : World) :
    Calls Try.prog 51 #[.agg #[.int .i64 r, .int .i64 g, .int .i64 b], .agg #[.int .i64 x, .int .i64 y, .int .i64 z]] w (PSt r g b x y z w) := by
  go_enter Try.func51, Try.ntmps51
  go_wp2
  go_returns
  exact ⟨_, _, rfl, ⟨⟨by simp, by simp, by simp⟩, by simp, by simp, by simp⟩, ((Gr.refl w).alloc _).alloc _⟩

set_option maxHeartbeats 800000 in
theorem straight_call (r g b x y z p q : Int) (b1 b2 : Nat) (w : World) (h1 : Cel3 w b1 r g b) (h2 : Cel3 w b2 x y z) :
    Calls Try.prog 70 #[.int .i64 p, .int .i64 q, .pointer (some ⟨b1, 0, none⟩), .pointer (some ⟨b2, 0, none⟩)] w fun e w' => e = .returned (.agg #[.int .i64 (mxV r x p q), .int .i64 (mxV g y p q), .int .i64 (mxV b z p q)]) ∧ Gr w w' := by
  have cp : (((w.alloc (.cells #[.int .i64 p] 3)).alloc (.cells #[.int .i64 q] 3)).alloc (.cells #[.int .i64 0, .int .i64 0, .int .i64 0] 23)).cell? ⟨w.heap.size, 0, none⟩ = some (.int .i64 p) := by go_simp
  have cq : (((w.alloc (.cells #[.int .i64 p] 3)).alloc (.cells #[.int .i64 q] 3)).alloc (.cells #[.int .i64 0, .int .i64 0, .int .i64 0] 23)).cell? ⟨w.heap.size + 1, 0, none⟩ = some (.int .i64 q) := by go_simp
  have HB := Lib.hid (fun (W : World) (hW : Gr (((w.alloc (.cells #[.int .i64 p] 3)).alloc (.cells #[.int .i64 q] 3)).alloc (.cells #[.int .i64 0, .int .i64 0, .int .i64 0] 23)) W) =>
    build_any 71 #[.pointer (some ⟨b1, 0, none⟩), .pointer (some ⟨b2, 0, none⟩), .pointer (some ⟨w.heap.size, 0, none⟩), .pointer (some ⟨w.heap.size + 1, 0, none⟩)] (mxV r x p q) (mxV g y p q) (mxV b z p q) W
      (enters_of Try.func71 (by kernel_rfl) rfl)
      (fun w1 g1 => by
        have g0 := ((((Gr.refl w).alloc (.cells #[.int .i64 p] 3)).alloc (.cells #[.int .i64 q] 3)).alloc (.cells #[.int .i64 0, .int .i64 0, .int .i64 0] 23)).trans (hW.trans g1)
        obtain ⟨c0, c1, c2⟩ := h1.gr g0
        obtain ⟨d0, d1, d2⟩ := h2.gr g0
        exact straight_red r g b x y z p q b1 b2 w.heap.size (w.heap.size + 1) w1 c0 c1 c2 d0 d1 d2 ((hW.trans g1).cell cp) ((hW.trans g1).cell cq))
      (fun w1 g1 => by
        have g0 := ((((Gr.refl w).alloc (.cells #[.int .i64 p] 3)).alloc (.cells #[.int .i64 q] 3)).alloc (.cells #[.int .i64 0, .int .i64 0, .int .i64 0] 23)).trans (hW.trans g1)
        obtain ⟨c0, c1, c2⟩ := h1.gr g0
        obtain ⟨d0, d1, d2⟩ := h2.gr g0
        exact straight_green r g b x y z p q b1 b2 w.heap.size (w.heap.size + 1) w1 c0 c1 c2 d0 d1 d2 ((hW.trans g1).cell cp) ((hW.trans g1).cell cq))
      (fun w1 g1 => by
        have g0 := ((((Gr.refl w).alloc (.cells #[.int .i64 p] 3)).alloc (.cells #[.int .i64 q] 3)).alloc (.cells #[.int .i64 0, .int .i64 0, .int .i64 0] 23)).trans (hW.trans g1)
        obtain ⟨c0, c1, c2⟩ := h1.gr g0
        obtain ⟨d0, d1, d2⟩ := h2.gr g0
        exact straight_blue r g b x y z p q b1 b2 w.heap.size (w.heap.size + 1) w1 c0 c1 c2 d0 d1 d2 ((hW.trans g1).cell cp) ((hW.trans g1).cell cq)))
  clear h1 h2 cp cq
  go_enter Try.func70, Try.ntmps70
  go_wp2_with fail
  refine (HB.out _ (Gr.refl _)).mono ?_
  rintro e w1 ⟨rfl, g1⟩
  obtain ⟨⟨k0, k1, k2⟩, f0, f1, f2⟩ := own3g (n := w.heap.size + 1 + 1) (by simp) g1
  go_wp2_with fail
  refine bodyPost_ret (v := .agg #[.int .i64 (mxV r x p q), .int .i64 (mxV g y p q), .int .i64 (mxV b z p q)]) ?_ rfl ⟨rfl, ?_⟩
  · simp [results, Try.results70, go_sem, k0, k1, k2]
  · exact set3g (by omega) (((((Gr.refl w).alloc _).alloc _).alloc _).trans g1) _ _ _

def hueA (h1 s1 h2 : Int) : Int := if s1 = 0 then h2 else h1
def hueB (h1 s1 h2 s2 : Int) : Int := if s2 = 0 then hueA h1 s1 h2 else h2
/-- A call that gives a journey around the circle. -/
def PAr (h1 s1 v1 h2 s2 v2 t : Int) (w : World) (e : Ending) (w' : World) : Prop := ∃ bf bt bo : Nat, e = .returned (.func (.func 73) #[] #[.pointer (some ⟨bf, 0, none⟩), .pointer (some ⟨bt, 0, none⟩), .pointer (some ⟨bo, 0, none⟩)]) ∧
  (Cel3 w' bf (hueA h1 s1 h2) s1 v1 ∧ w'.cell? ⟨bt, 0, none⟩ = some (.int .i64 t) ∧ Cel3 w' bo (hueB h1 s1 h2 s2) s2 v2) ∧ Gr w w'
/-- How far the hue turns up. -/
def upH (h1 s1 h2 s2 : Int) : Int := (hueB h1 s1 h2 s2 - hueA h1 s1 h2 + 393210) % 393210

set_option maxHeartbeats 3200000 in
theorem around_short (h1 s1 v1 h2 s2 v2 : Int) (w : World) (a0 : 0 ≤ h1) (a1 : h1 ≤ 393209) (b0 : 0 ≤ h2) (b1 : h2 ≤ 393209) :
    Calls Try.prog 52 #[.agg #[.int .i64 h1, .int .i64 s1, .int .i64 v1], .agg #[.int .i64 h2, .int .i64 s2, .int .i64 v2], .func (.func 53) #[] #[]] w (PAr h1 s1 v1 h2 s2 v2 (shortT (upH h1 s1 h2 s2)) w) := by
  have H := Lib.hid (fun u w (u0 : 0 ≤ u) (u1 : u ≤ 393209) => shortTurn_any u w u0 u1)
  by_cases hs1 : s1 = 0
  · by_cases hs2 : s2 = 0
    · have e : Hid (hueA h1 s1 h2 = h2 ∧ hueB h1 s1 h2 s2 = h2 ∧ upH h1 s1 h2 s2 = 0) := by
        have x1 : hueA h1 s1 h2 = h2 := by unfold hueA; rw [if_pos hs1]
        have x2 : hueB h1 s1 h2 s2 = h2 := by unfold hueB; rw [if_pos hs2, x1]
        exact ⟨x1, x2, by unfold upH; rw [x1, x2]; omega⟩
      unfold PAr
      rw [e.out.1, e.out.2.1, e.out.2.2]
      have t1 : (s1 == 0) = true := by simpa using hs1
      have t2 : (s2 == 0) = true := by simpa using hs2
      clear hs1 hs2
      go_enter Try.func52, Try.ntmps52
      go_wp2_with (go_at_call 53; refine (H.out _ _ (by omega) (by omega)).mono ?_; rintro e' w' ⟨rfl, rfl⟩)
      go_returns
      exact ⟨_, _, _, rfl, ⟨⟨by go_simp, by go_simp, by go_simp⟩, by go_simp, by go_simp, by go_simp, by go_simp⟩, (((Gr.refl w).alloc _).alloc _).alloc _⟩
    · have e : Hid (hueA h1 s1 h2 = h2 ∧ hueB h1 s1 h2 s2 = h2 ∧ upH h1 s1 h2 s2 = 0) := by
        have x1 : hueA h1 s1 h2 = h2 := by unfold hueA; rw [if_pos hs1]
        have x2 : hueB h1 s1 h2 s2 = h2 := by unfold hueB; rw [if_neg hs2]
        exact ⟨x1, x2, by unfold upH; rw [x1, x2]; omega⟩
      unfold PAr
      rw [e.out.1, e.out.2.1, e.out.2.2]
      have t1 : (s1 == 0) = true := by simpa using hs1
      have t2 : (s2 == 0) = false := by simpa using hs2
      clear hs1 hs2
      go_enter Try.func52, Try.ntmps52
      go_wp2_with (go_at_call 53; refine (H.out _ _ (by omega) (by omega)).mono ?_; rintro e' w' ⟨rfl, rfl⟩)
      go_returns
      exact ⟨_, _, _, rfl, ⟨⟨by go_simp, by go_simp, by go_simp⟩, by go_simp, by go_simp, by go_simp, by go_simp⟩, (((Gr.refl w).alloc _).alloc _).alloc _⟩
  · by_cases hs2 : s2 = 0
    · have e : Hid (hueA h1 s1 h2 = h1 ∧ hueB h1 s1 h2 s2 = h1 ∧ upH h1 s1 h2 s2 = 0) := by
        have x1 : hueA h1 s1 h2 = h1 := by unfold hueA; rw [if_neg hs1]
        have x2 : hueB h1 s1 h2 s2 = h1 := by unfold hueB; rw [if_pos hs2, x1]
        exact ⟨x1, x2, by unfold upH; rw [x1, x2]; omega⟩
      unfold PAr
      rw [e.out.1, e.out.2.1, e.out.2.2]
      have t1 : (s1 == 0) = false := by simpa using hs1
      have t2 : (s2 == 0) = true := by simpa using hs2
      clear hs1 hs2
      go_enter Try.func52, Try.ntmps52
      go_wp2_with (go_at_call 53; refine (H.out _ _ (by omega) (by omega)).mono ?_; rintro e' w' ⟨rfl, rfl⟩)
      go_returns
      exact ⟨_, _, _, rfl, ⟨⟨by go_simp, by go_simp, by go_simp⟩, by go_simp, by go_simp, by go_simp, by go_simp⟩, (((Gr.refl w).alloc _).alloc _).alloc _⟩
    · have e : Hid (hueA h1 s1 h2 = h1 ∧ hueB h1 s1 h2 s2 = h2 ∧ upH h1 s1 h2 s2 = (h2 - h1 + 393210) % 393210) := by
        have x1 : hueA h1 s1 h2 = h1 := by unfold hueA; rw [if_neg hs1]
        have x2 : hueB h1 s1 h2 s2 = h2 := by unfold hueB; rw [if_neg hs2]
        exact ⟨x1, x2, by unfold upH; rw [x1, x2]⟩
      unfold PAr
      rw [e.out.1, e.out.2.1, e.out.2.2]
      have t1 : (s1 == 0) = false := by simpa using hs1
      have t2 : (s2 == 0) = false := by simpa using hs2
      clear hs1 hs2
      go_enter Try.func52, Try.ntmps52
      go_wp2_with (go_at_call 53; refine (H.out _ _ (by omega) (by omega)).mono ?_; rintro e' w' ⟨rfl, rfl⟩)
      go_returns
      exact ⟨_, _, _, rfl, ⟨⟨by go_simp, by go_simp, by go_simp⟩, by go_simp, by go_simp, by go_simp, by go_simp⟩, (((Gr.refl w).alloc _).alloc _).alloc _⟩
set_option maxHeartbeats 3200000 in
theorem around_long (h1 s1 v1 h2 s2 v2 : Int) (w : World) (a0 : 0 ≤ h1) (a1 : h1 ≤ 393209) (b0 : 0 ≤ h2) (b1 : h2 ≤ 393209) :
    Calls Try.prog 52 #[.agg #[.int .i64 h1, .int .i64 s1, .int .i64 v1], .agg #[.int .i64 h2, .int .i64 s2, .int .i64 v2], .func (.func 54) #[] #[]] w (PAr h1 s1 v1 h2 s2 v2 (longT (upH h1 s1 h2 s2)) w) := by
  have H := Lib.hid (fun u w (u0 : 0 ≤ u) (u1 : u ≤ 393209) => longTurn_any u w u0 u1)
  by_cases hs1 : s1 = 0
  · by_cases hs2 : s2 = 0
    · have e : Hid (hueA h1 s1 h2 = h2 ∧ hueB h1 s1 h2 s2 = h2 ∧ upH h1 s1 h2 s2 = 0) := by
        have x1 : hueA h1 s1 h2 = h2 := by unfold hueA; rw [if_pos hs1]
        have x2 : hueB h1 s1 h2 s2 = h2 := by unfold hueB; rw [if_pos hs2, x1]
        exact ⟨x1, x2, by unfold upH; rw [x1, x2]; omega⟩
      unfold PAr
      rw [e.out.1, e.out.2.1, e.out.2.2]
      have t1 : (s1 == 0) = true := by simpa using hs1
      have t2 : (s2 == 0) = true := by simpa using hs2
      clear hs1 hs2
      go_enter Try.func52, Try.ntmps52
      go_wp2_with (go_at_call 54; refine (H.out _ _ (by omega) (by omega)).mono ?_; rintro e' w' ⟨rfl, rfl⟩)
      go_returns
      exact ⟨_, _, _, rfl, ⟨⟨by go_simp, by go_simp, by go_simp⟩, by go_simp, by go_simp, by go_simp, by go_simp⟩, (((Gr.refl w).alloc _).alloc _).alloc _⟩
    · have e : Hid (hueA h1 s1 h2 = h2 ∧ hueB h1 s1 h2 s2 = h2 ∧ upH h1 s1 h2 s2 = 0) := by
        have x1 : hueA h1 s1 h2 = h2 := by unfold hueA; rw [if_pos hs1]
        have x2 : hueB h1 s1 h2 s2 = h2 := by unfold hueB; rw [if_neg hs2]
        exact ⟨x1, x2, by unfold upH; rw [x1, x2]; omega⟩
      unfold PAr
      rw [e.out.1, e.out.2.1, e.out.2.2]
      have t1 : (s1 == 0) = true := by simpa using hs1
      have t2 : (s2 == 0) = false := by simpa using hs2
      clear hs1 hs2
      go_enter Try.func52, Try.ntmps52
      go_wp2_with (go_at_call 54; refine (H.out _ _ (by omega) (by omega)).mono ?_; rintro e' w' ⟨rfl, rfl⟩)
      go_returns
      exact ⟨_, _, _, rfl, ⟨⟨by go_simp, by go_simp, by go_simp⟩, by go_simp, by go_simp, by go_simp, by go_simp⟩, (((Gr.refl w).alloc _).alloc _).alloc _⟩
  · by_cases hs2 : s2 = 0
    · have e : Hid (hueA h1 s1 h2 = h1 ∧ hueB h1 s1 h2 s2 = h1 ∧ upH h1 s1 h2 s2 = 0) := by
        have x1 : hueA h1 s1 h2 = h1 := by unfold hueA; rw [if_neg hs1]
        have x2 : hueB h1 s1 h2 s2 = h1 := by unfold hueB; rw [if_pos hs2, x1]
        exact ⟨x1, x2, by unfold upH; rw [x1, x2]; omega⟩
      unfold PAr
      rw [e.out.1, e.out.2.1, e.out.2.2]
      have t1 : (s1 == 0) = false := by simpa using hs1
      have t2 : (s2 == 0) = true := by simpa using hs2
      clear hs1 hs2
      go_enter Try.func52, Try.ntmps52
      go_wp2_with (go_at_call 54; refine (H.out _ _ (by omega) (by omega)).mono ?_; rintro e' w' ⟨rfl, rfl⟩)
      go_returns
      exact ⟨_, _, _, rfl, ⟨⟨by go_simp, by go_simp, by go_simp⟩, by go_simp, by go_simp, by go_simp, by go_simp⟩, (((Gr.refl w).alloc _).alloc _).alloc _⟩
    · have e : Hid (hueA h1 s1 h2 = h1 ∧ hueB h1 s1 h2 s2 = h2 ∧ upH h1 s1 h2 s2 = (h2 - h1 + 393210) % 393210) := by
        have x1 : hueA h1 s1 h2 = h1 := by unfold hueA; rw [if_neg hs1]
        have x2 : hueB h1 s1 h2 s2 = h2 := by unfold hueB; rw [if_neg hs2]
        exact ⟨x1, x2, by unfold upH; rw [x1, x2]⟩
      unfold PAr
      rw [e.out.1, e.out.2.1, e.out.2.2]
      have t1 : (s1 == 0) = false := by simpa using hs1
      have t2 : (s2 == 0) = false := by simpa using hs2
      clear hs1 hs2
      go_enter Try.func52, Try.ntmps52
      go_wp2_with (go_at_call 54; refine (H.out _ _ (by omega) (by omega)).mono ?_; rintro e' w' ⟨rfl, rfl⟩)
      go_returns
      exact ⟨_, _, _, rfl, ⟨⟨by go_simp, by go_simp, by go_simp⟩, by go_simp, by go_simp, by go_simp, by go_simp⟩, (((Gr.refl w).alloc _).alloc _).alloc _⟩
end Go.Proofs.Ytdmpdcggepfaiaa
