/- The reference's Way along a table, and of all kinds of curves. -/
import Derived.Test.YtdnipbeggcfnbaaAlongR
import Derived.Test.YtdnipbeggcfnbaaCourse
namespace Go.Proofs.Ytdnipbeggcfnbaa
open Go.RowKit

set_option maxRecDepth 100000 in
set_option maxHeartbeats 6400000 in
theorem way6 (b off cap : Nat) (l : List (Int × Int)) (v : Value) (p q : Int) (w : World) (hP : Pts w b off l) (hT : OkTab l) (hv : Fr w v p q) (p0 : 0 ≤ p) (p1 : p ≤ q) (q0 : 1 ≤ q) (q1 : q ≤ 36000000) :
    Calls Try.prog 58 #[.agg #[.int .i64 6, .slice (some ⟨b, off, none⟩) l.length cap], v] w (PGood (wN 6 l p q) (wD 6 l p q) w) := by
  have TA := fun w' (g : Bl w w') => along_ref b off cap l v p q w' (hP.bl g) hT (hv.bl g) p0 p1 q0 q1
  have hD : Hid ((tab (l[0]?.getD (0, 0)) (l.drop 1) p q).1 = wN 6 l p q ∧ (tab (l[0]?.getD (0, 0)) (l.drop 1) p q).2 = wD 6 l p q) := ⟨rfl, rfl⟩
  rw [hD.out.1, hD.out.2] at TA
  have TA := Lib.hid TA
  obtain ⟨n1, o1, l1, c1, o2, l2, c2, rfl⟩ := hv.form
  clear hv hP hT hD
  generalize wN 6 l p q = NN at *
  generalize wD 6 l p q = DD at *
  go_enter Try.func58, Try.ntmps58
  go_wp2_with fail
  refine (whole_any 1 _ (by omega) (by omega)).mono ?_
  rintro e w1 ⟨v1, rfl, h1, g1⟩
  obtain ⟨n3, o3, l3, c3, o4, l4, c4, rfl⟩ := h1.form
  have HONE := Lib.hid h1
  clear h1
  have hb := Bl.trans ((Bl.refl _).alloc _) g1
  have hz : w.heap.size + 1 + 1 < w1.heap.size := by have := g1.size; simp at this; omega
  have hz1 : w.heap.size + 1 < w1.heap.size := by omega
  have hz0 : w.heap.size < w1.heap.size := by omega
  obtain ⟨⟨k0, k1⟩, k2, k3, k4⟩ := own25 w _ _ _ _ _ _ _ hb
  go_wp2_with fail
  refine (TA.out _ (((((Bl.refl w).alloc _).alloc _).alloc _).trans (g1.alloc _))).mono ?_
  rintro e w2 ⟨v2, rfl, h2, g2⟩
  obtain ⟨n5, o5, l5, c5, o6, l6, c6, rfl⟩ := h2.form
  have H2 := Lib.hid h2
  clear h2
  have g3 := (g1.alloc (.cells #[.bool n3, .slice o3 l3 c3, .slice o4 l4 c4] 76)).trans g2
  obtain ⟨r0, r1, r2⟩ := own3 (n := w.heap.size + 1 + 1) (by simp) g3
  obtain ⟨f0, f1, f2⟩ := own3f (n := w.heap.size + 1 + 1) (by simp) g3
  go_wp2_with fail
  refine bodyPost_ret (v := .agg #[.bool n5, .slice o5 l5 c5, .slice o6 l6 c6]) (by simp [results, Try.results58, go_sem, r0, r1, r2]) rfl ?_
  exact good_done (n := w.heap.size + 1 + 1) (by simp) (g3) (((Bl.refl w).alloc _).alloc _) H2.out

/-- The way of a right curve, of whatever kind. -/
theorem way_any (k : Int) (sv : Value) (l : List (Int × Int)) (v : Value) (p q : Int) (w : World) (h : PtsAny w sv l) (hc : ckCurve k l = 0) (hv : Fr w v p q) (p0 : 0 ≤ p) (p1 : p ≤ q) (q0 : 1 ≤ q) (q1 : q ≤ 36000000) :
    Calls Try.prog 58 #[.agg #[.int .i64 k, sv], v] w (PGood (wN k l p q) (wD k l p q) w) := by
  have hC := curveAt_of h hc
  obtain ⟨o, n, cap, hsv⟩ : ∃ o n cap, sv = .slice o n cap := by
    rcases h with ⟨o, cap, rfl, rfl⟩ | ⟨b, off, cap, rfl, h2, h3⟩
    · exact ⟨_, _, _, rfl⟩
    · exact ⟨_, _, _, rfl⟩
  rcases kinds (curve_of hC) with rfl | rfl | rfl | rfl | rfl | rfl
  · exact way1 sv v o n cap hsv p q w hv p0 p1 q0 q1
  · exact way2 sv v o n cap hsv p q w hv p0 p1 q0 q1
  · exact way3 sv v o n cap hsv p q w hv p0 p1 q0 q1
  · exact way4 sv v o n cap hsv p q w hv p0 p1 q0 q1
  · by_cases hlt : p < q
    · exact way5a sv v o n cap hsv p q w hv p0 p1 q0 q1 hlt
    · exact way5b sv v o n cap hsv p q w hv p0 p1 q0 q1 (by omega)
  · obtain ⟨hT, b, off, cap, rfl, hP⟩ := hC.tab rfl
    exact way6 b off cap l v p q w hP hT hv p0 p1 q0 q1
end Go.Proofs.Ytdnipbeggcfnbaa
