/- The reference's Way: of the curves without points. -/
import Derived.Test.YtdienaigmkaheaaRefC
import Derived.Test.YtdienaigmkaheaaRefL
import Derived.Test.YtdienaigmkaheaaCurves
namespace Go.Proofs.Ytdienaigmkaheaa
open Go.RowKit

/-- A part of the way, exactly. -/
def GoodFr (w : World) (v : Value) (N D : Int) : Prop := ∃ P Q, Fr w v P Q ∧ 0 ≤ P ∧ P ≤ Q ∧ Q < pw 4 ∧ P * D = N * Q
def PGood (N D : Int) (w : World) (e : Ending) (w' : World) : Prop := ∃ v, e = .returned v ∧ GoodFr w' v N D ∧ Bl w w'
theorem GoodFr.bl {w w' : World} {v : Value} {N D : Int} (h : GoodFr w v N D) (g : Bl w w') : GoodFr w' v N D := by
  obtain ⟨P, Q, h1, h2⟩ := h; exact ⟨P, Q, h1.bl g, h2⟩

/-- A curve and a fraction, by value, and a result. -/
theorem own25 (w : World) (tc t : TypeId) (k s a b c : Value) {W' : World} (h : Bl ((w.alloc (.cells #[k, s] tc)).alloc (.cells #[a, b, c] t)) W') :
    (W'.cell? ⟨w.heap.size, 0, none⟩ = some k ∧ W'.cell? ⟨w.heap.size, 1, none⟩ = some s) ∧ W'.cell? ⟨w.heap.size + 1, 0, none⟩ = some a ∧ W'.cell? ⟨w.heap.size + 1, 1, none⟩ = some b ∧ W'.cell? ⟨w.heap.size + 1, 2, none⟩ = some c :=
  ⟨box2 rfl (((Bl.refl _).alloc _).trans h), own3 (n := w.heap.size + 1) (by simp) h⟩

theorem q_bd {q : Int} (q0 : 1 ≤ q) (q1 : q ≤ 36000000) : 1 ≤ q * q ∧ q * q ≤ 1296000000000000 ∧ 1 ≤ q * q * (q * q) ∧ q * q * (q * q) ≤ 1679616000000000000000000000000 := by
  have h1 : 1 * 1 ≤ q * q := Int.mul_le_mul q0 q0 (by omega) (by omega)
  have h2 := sq_bd (q := q) (by omega) q1
  have h3 : 1 * 1 ≤ q * q * (q * q) := Int.mul_le_mul (by omega) (by omega) (by omega) (by omega)
  have h4 : q * q * (q * q) ≤ 1296000000000000 * 1296000000000000 := Int.mul_le_mul h2 h2 (by omega) (by omega)
  omega
theorem lt4 {N : Int} (h : N ≤ 100000000000000000000000000000000) : N < pw 4 ∧ N < pw 5 ∧ N < pw 6 := by
  have e : (100000000000000000000000000000000 : Int) < pw 4 ∧ pw 5 = 1000000000 * pw 4 ∧ pw 6 = 1000000000 * pw 5 := ⟨by decide, by rw [← pw_succ], by rw [← pw_succ]⟩
  omega

theorem good_done {w0 W W' : World} {n : Nat} {b : Bool} {t : TypeId} (hn : n = W.heap.size) (h : Bl (W.alloc (.cells #[.bool b, .slice none 0 0, .slice none 0 0] t)) W') (h0 : Bl w0 W) {neg : Bool} {o1 : Option Addr} {l1 c1 : Nat} {o2 : Option Addr} {l2 c2 : Nat} {N D : Int}
    (hg : GoodFr W' (.agg #[.bool neg, .slice o1 l1 c1, .slice o2 l2 c2]) N D) : PGood N D w0 (.returned (.agg #[.bool neg, .slice o1 l1 c1, .slice o2 l2 c2])) (set3 W' n (.bool neg) (.slice o1 l1 c1) (.slice o2 l2 c2)) := by
  obtain ⟨P, Q, ⟨ng, a1, a2, a3, a4, a5, a6, he, h1, h2, h3, h4⟩, hr⟩ := hg
  simp only [Value.agg.injEq, Array.mk.injEq, List.cons.injEq, Value.bool.injEq, Value.slice.injEq, and_true] at he
  obtain ⟨rfl, ⟨rfl, rfl, rfl⟩, ⟨rfl, rfl, rfl⟩⟩ := he
  exact ⟨_, rfl, ⟨P, Q, ⟨_, _, _, _, _, _, _, rfl, nat_set3 hn h h1 _ _ _, nat_set3 hn h h2 _ _ _, h3, h4⟩, hr⟩, set3_bl hn h h0 _ _ _⟩
theorem PGood.alloc {N D : Int} {w0 W : World} {e : Ending} (h : PGood N D w0 e W) (o : Obj) : PGood N D w0 e (W.alloc o) := by
  obtain ⟨v, he, hg, hb⟩ := h
  exact ⟨v, he, hg.bl ((Bl.refl W).alloc o), hb.alloc o⟩
theorem GoodFr.form {w : World} {v : Value} {N D : Int} (h : GoodFr w v N D) : ∃ (neg : Bool) (o1 : Option Addr) (l1 c1 : Nat) (o2 : Option Addr) (l2 c2 : Nat), v = .agg #[.bool neg, .slice o1 l1 c1, .slice o2 l2 c2] := by
  obtain ⟨P, Q, ⟨ng, a1, a2, a3, a4, a5, a6, he, _⟩, _⟩ := h; exact ⟨ng, a1, a2, a3, a4, a5, a6, he⟩
theorem Fr.form {w : World} {v : Value} {p q : Int} (h : Fr w v p q) : ∃ (neg : Bool) (o1 : Option Addr) (l1 c1 : Nat) (o2 : Option Addr) (l2 c2 : Nat), v = .agg #[.bool neg, .slice o1 l1 c1, .slice o2 l2 c2] := by
  obtain ⟨ng, a1, a2, a3, a4, a5, a6, he, _⟩ := h; exact ⟨ng, a1, a2, a3, a4, a5, a6, he⟩

set_option maxRecDepth 100000 in
set_option maxHeartbeats 6400000 in
theorem way1 (sv v : Value) (o : Option Addr) (n cap : Nat) (hsv : sv = .slice o n cap) (p q : Int) (w : World) (hv : Fr w v p q) (p0 : 0 ≤ p) (p1 : p ≤ q) (q0 : 1 ≤ q) (q1 : q ≤ 36000000) :
    Calls Try.prog 31 #[.agg #[.int .i64 1, sv], v] w (PGood (wN 1 [] p q) (wD 1 [] p q) w) := by
  subst hsv
  have hG : Hid (∀ w', Bl w w' → GoodFr w' v (wN 1 [] p q) (wD 1 [] p q)) := fun w' g => ⟨p, q, hv.bl g, p0, p1, (lt4 (by omega)).1, rfl⟩
  obtain ⟨n1, o1, l1, c1, o2, l2, c2, rfl⟩ := hv.form
  clear hv
  go_enter Try.func31, Try.ntmps31
  go_wp2_with fail
  refine (whole_any 1 _ (by omega) (by omega)).mono ?_
  rintro e w1 ⟨v1, rfl, h1, g1⟩
  obtain ⟨n3, o3, l3, c3, o4, l4, c4, rfl⟩ := h1.form
  have HONE := Lib.hid h1
  clear h1
  have hb := Bl.trans ((Bl.refl _).alloc _) g1
  have hz : w.heap.size + 1 + 1 < w1.heap.size := by have := g1.size; simp at this; omega
  have hz1 : w.heap.size + 1 < w1.heap.size := by omega
  have hz0 : w.heap.size < w1.heap.size := by omega
  obtain ⟨⟨k0, k1⟩, k2, k3, k4⟩ := own25 w _ _ _ _ _ _ _ hb
  obtain ⟨r0, r1, r2⟩ := own3 (n := w.heap.size + 1 + 1) (by simp) g1
  obtain ⟨f0, f1, f2⟩ := own3f (n := w.heap.size + 1 + 1) (by simp) g1
  go_wp2_with fail
  refine bodyPost_ret (v := .agg #[.bool n1, .slice o1 l1 c1, .slice o2 l2 c2]) (by simp [results, Try.results31, go_sem, r0, r1, r2, hz]) rfl ?_
  exact (good_done (n := w.heap.size + 1 + 1) (by simp) g1 (((Bl.refl w).alloc _).alloc _) (hG.out _ (((((Bl.refl w).alloc _).alloc _).alloc _).trans g1))).alloc _

set_option maxRecDepth 100000 in
set_option maxHeartbeats 6400000 in
theorem way2 (sv v : Value) (o : Option Addr) (n cap : Nat) (hsv : sv = .slice o n cap) (p q : Int) (w : World) (hv : Fr w v p q) (p0 : 0 ≤ p) (p1 : p ≤ q) (q0 : 1 ≤ q) (q1 : q ≤ 36000000) :
    Calls Try.prog 31 #[.agg #[.int .i64 2, sv], v] w (PGood (wN 2 [] p q) (wD 2 [] p q) w) := by
  subst hsv
  obtain ⟨s1, s2, s3, s4⟩ := q_bd q0 q1
  have s5 := sq_le p0 p1
  have s6 := Int.mul_nonneg p0 p0
  have TT := Lib.hid (fun w' (g : Bl w w') => times_fr v v p q p q w' (hv.bl g) (hv.bl g) (lt4 (by omega)).2.1 (lt4 (by omega)).2.1 (lt4 (by omega)).2.1 (lt4 (by omega)).2.1 (lt4 (by omega)).2.1 (lt4 (by omega)).2.2)
  have hG : Hid (∀ w' v', Fr w' v' (p * p) (q * q) → GoodFr w' v' (wN 2 [] p q) (wD 2 [] p q)) := fun w' v' h => ⟨p * p, q * q, h, s6, s5, (lt4 (by omega)).1, rfl⟩
  clear s1 s2 s3 s4 s5 s6
  obtain ⟨n1, o1, l1, c1, o2, l2, c2, rfl⟩ := hv.form
  clear hv
  go_enter Try.func31, Try.ntmps31
  go_wp2_with fail
  refine (whole_any 1 _ (by omega) (by omega)).mono ?_
  rintro e w1 ⟨v1, rfl, h1, g1⟩
  obtain ⟨n3, o3, l3, c3, o4, l4, c4, rfl⟩ := h1.form
  have HONE := Lib.hid h1
  clear h1
  have hb := Bl.trans ((Bl.refl _).alloc _) g1
  have hz : w.heap.size + 1 + 1 < w1.heap.size := by have := g1.size; simp at this; omega
  have hz1 : w.heap.size + 1 < w1.heap.size := by omega
  have hz0 : w.heap.size < w1.heap.size := by omega
  obtain ⟨⟨k0, k1⟩, k2, k3, k4⟩ := own25 w _ _ _ _ _ _ _ hb
  go_wp2_with fail
  refine (TT.out _ (((((Bl.refl w).alloc _).alloc _).alloc _).trans (g1.alloc _))).mono ?_
  rintro e w2 ⟨v2, rfl, h2, g2⟩
  obtain ⟨n5, o5, l5, c5, o6, l6, c6, rfl⟩ := h2.form
  have H2 := Lib.hid h2
  clear h2
  have g3 := (g1.alloc _).trans g2
  obtain ⟨r0, r1, r2⟩ := own3 (n := w.heap.size + 1 + 1) (by simp) g3
  obtain ⟨f0, f1, f2⟩ := own3f (n := w.heap.size + 1 + 1) (by simp) g3
  go_wp2_with fail
  refine bodyPost_ret (v := .agg #[.bool n5, .slice o5 l5 c5, .slice o6 l6 c6]) (by simp [results, Try.results31, go_sem, r0, r1, r2]) rfl ?_
  exact good_done (n := w.heap.size + 1 + 1) (by simp) (g3) (((Bl.refl w).alloc _).alloc _) (hG.out _ _ H2.out)
end Go.Proofs.Ytdienaigmkaheaa
