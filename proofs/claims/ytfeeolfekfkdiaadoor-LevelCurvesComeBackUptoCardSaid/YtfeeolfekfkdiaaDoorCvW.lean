/- The walks of LevelCurvesComeBack. -/
import Derived.Test.YtfeeolfekfkdiaaDoorCvK
namespace Go.Proofs.YtfeeolfekfkdiaaDoor.curvback
open Go.RowKit

set_option maxRecDepth 100000 in
set_option maxHeartbeats 3200000 in
theorem walk111 (k : Int) (o : Option Addr) (n cap : Nat) (l : List (Int × Int)) (s : ByteArray) (w : World) (h : PtsAny w (.slice o n cap) l) (t : ByteArray) (k2 : Int) (l2 : List (Int × Int)) (k3 : Int) (l3 : List (Int × Int))
    (HA : ∀ w', Bl w w' → Calls Tryd.prog 23 #[.agg #[.int .i64 k, .slice o n cap]] w' (CtIs t 0 w'))
    (HB : ∀ w', Bl w w' → Calls Tryd.prog 27 #[.string t] w' (RcOk k l w'))
    (HI : ∀ w', Bl w w' → Calls Tryd.prog 30 #[.agg #[.int .i64 k, .slice o n cap]] w' (RcOk k2 l2 w'))
    (HJ : ∀ v w', PtsAny w' v l2 → Calls Tryd.prog 30 #[.agg #[.int .i64 k2, v]] w' (RcOk k l w'))
    (HR : ∀ w', Bl w w' → Calls Tryd.prog 27 #[.string s] w' (RcOk k3 l3 w'))
    (HT : ∀ v w', Bl w w' → PtsAny w' v l3 → Calls Tryd.prog 23 #[.agg #[.int .i64 k3, v]] w' (CtIs s 0 w')) :
    Calls Tryd.prog 9 #[.agg #[.int .i64 k, .slice o n cap], .string s] w fun e w' => e = .returned (.bool true) ∧ Bl w w' := by
  have HH := Lib.hid h
  replace HA := Lib.hid HA
  replace HB := Lib.hid HB
  replace HI := Lib.hid HI
  replace HJ := Lib.hid HJ
  replace HR := Lib.hid HR
  replace HT := Lib.hid HT
  have HS := Lib.hid (fun o1 n1 c1 w' (g : Bl w w') (h1 : PtsAny w' (.slice o1 n1 c1) l) => sameCurve_ok k o1 n1 c1 o n cap l w' h1 (h.bl g))
  clear h
  go_enter Tryd.func9, Tryd.ntmps9
  have g0 : Bl w w := Bl.refl w
  go_wp2_with fail
  have b0 : Bl w (w.alloc (.cells #[.int .i64 k, .slice o n cap] 24)) := (Bl.refl w).alloc _
  refine (HA.out _ b0).mono ?_
  rintro e w1 ⟨rfl, g1⟩
  obtain ⟨p0, p1⟩ := box2 rfl g1
  have hs : w.heap.size < w1.heap.size := by have := g1.size; simp at this; omega
  have b1 : Bl w w1 := b0.trans g1
  have G1 := g1
  go_wp2_with fail
  refine (HB.out _ b1).mono ?_
  rintro e w2 ⟨v, rfl, hv, g2⟩
  obtain ⟨o2, n2, c2, rfl⟩ := hv.form
  have G2 := G1.trans g2
  clear p0 p1
  obtain ⟨p0, p1⟩ := box2 rfl G2
  replace hs : w.heap.size < w2.heap.size := by have := g2.size; omega
  have b2 : Bl w w2 := b1.trans g2
  go_wp2_with fail
  have a3 : Bl w2 (w2.alloc (.cells #[.int .i64 k, .slice o2 n2 c2] 24)) := (Bl.refl w2).alloc _
  refine (HS.out o2 n2 c2 _ (b2.trans a3) (hv.bl a3)).mono ?_
  rintro e w3 ⟨rfl, g3⟩
  replace g3 := a3.trans g3
  have G3 := G2.trans g3
  clear p0 p1
  obtain ⟨p0, p1⟩ := box2 rfl G3
  replace hs : w.heap.size < w3.heap.size := by have := g3.size; omega
  have b3 : Bl w w3 := b2.trans g3
  clear hv
  go_wp2_with fail
  refine (HI.out _ b3).mono ?_
  rintro e w4 ⟨v, rfl, hv, g4⟩
  obtain ⟨o4, n4, c4, rfl⟩ := hv.form
  have G4 := G3.trans g4
  clear p0 p1
  obtain ⟨p0, p1⟩ := box2 rfl G4
  replace hs : w.heap.size < w4.heap.size := by have := g4.size; omega
  have b4 : Bl w w4 := b3.trans g4
  go_wp2_with fail
  have a5 : Bl w4 (w4.alloc (.cells #[.int .i64 k2, .slice o4 n4 c4] 24)) := (Bl.refl w4).alloc _
  refine (HJ.out _ _ (hv.bl a5)).mono ?_
  rintro e w5 ⟨v, rfl, hu, g5⟩
  obtain ⟨o5, n5, c5, rfl⟩ := hu.form
  replace g5 := a5.trans g5
  have G5 := G4.trans g5
  clear p0 p1
  obtain ⟨p0, p1⟩ := box2 rfl G5
  replace hs : w.heap.size < w5.heap.size := by have := g5.size; omega
  have b5 : Bl w w5 := b4.trans g5
  go_wp2_with fail
  have a6 : Bl w5 (w5.alloc (.cells #[.int .i64 k, .slice o5 n5 c5] 24)) := (Bl.refl w5).alloc _
  refine (HS.out o5 n5 c5 _ (b5.trans a6) (hu.bl a6)).mono ?_
  rintro e w6 ⟨rfl, g6⟩
  replace g6 := a6.trans g6
  have G6 := G5.trans g6
  clear p0 p1
  obtain ⟨p0, p1⟩ := box2 rfl G6
  replace hs : w.heap.size < w6.heap.size := by have := g6.size; omega
  have b6 : Bl w w6 := b5.trans g6
  clear hv hu
  go_wp2_with fail
  refine (HR.out _ b6).mono ?_
  rintro e w7 ⟨v, rfl, hv, g7⟩
  obtain ⟨o6, n6, c6, rfl⟩ := hv.form
  have G7 := G6.trans g7
  clear p0 p1
  obtain ⟨p0, p1⟩ := box2 rfl G7
  replace hs : w.heap.size < w7.heap.size := by have := g7.size; omega
  have b7 : Bl w w7 := b6.trans g7
  go_wp2_with fail
  have a8 : Bl w7 (w7.alloc (.cells #[.int .i64 k3, .slice o6 n6 c6] 24)) := (Bl.refl w7).alloc _
  refine (HT.out _ _ (b7.trans a8) (hv.bl a8)).mono ?_
  rintro e w8 ⟨rfl, g8⟩
  replace g8 := a8.trans g8
  have G8 := G7.trans g8
  clear p0 p1
  obtain ⟨p0, p1⟩ := box2 rfl G8
  replace hs : w.heap.size < w8.heap.size := by have := g8.size; omega
  have b8 : Bl w w8 := b7.trans g8
  go_wp2_with fail
  go_returns
  exact ⟨by first | rfl | exact (by simp), b8⟩
set_option maxRecDepth 100000 in
set_option maxHeartbeats 3200000 in
theorem walk110 (k : Int) (o : Option Addr) (n cap : Nat) (l : List (Int × Int)) (s : ByteArray) (w : World) (h : PtsAny w (.slice o n cap) l) (t : ByteArray) (k2 : Int) (l2 : List (Int × Int)) (k3 x3 : Int) (hx3 : (x3 != 0) = true)
    (HA : ∀ w', Bl w w' → Calls Tryd.prog 23 #[.agg #[.int .i64 k, .slice o n cap]] w' (CtIs t 0 w'))
    (HB : ∀ w', Bl w w' → Calls Tryd.prog 27 #[.string t] w' (RcOk k l w'))
    (HI : ∀ w', Bl w w' → Calls Tryd.prog 30 #[.agg #[.int .i64 k, .slice o n cap]] w' (RcOk k2 l2 w'))
    (HJ : ∀ v w', PtsAny w' v l2 → Calls Tryd.prog 30 #[.agg #[.int .i64 k2, v]] w' (RcOk k l w'))
    (HR : ∀ w', Bl w w' → Calls Tryd.prog 27 #[.string s] w' (RcNo k3 x3 w')) :
    Calls Tryd.prog 9 #[.agg #[.int .i64 k, .slice o n cap], .string s] w fun e w' => e = .returned (.bool true) ∧ Bl w w' := by
  have HH := Lib.hid h
  replace HA := Lib.hid HA
  replace HB := Lib.hid HB
  replace HI := Lib.hid HI
  replace HJ := Lib.hid HJ
  replace HR := Lib.hid HR
  have HS := Lib.hid (fun o1 n1 c1 w' (g : Bl w w') (h1 : PtsAny w' (.slice o1 n1 c1) l) => sameCurve_ok k o1 n1 c1 o n cap l w' h1 (h.bl g))
  clear h
  go_enter Tryd.func9, Tryd.ntmps9
  have g0 : Bl w w := Bl.refl w
  go_wp2_with fail
  have b0 : Bl w (w.alloc (.cells #[.int .i64 k, .slice o n cap] 24)) := (Bl.refl w).alloc _
  refine (HA.out _ b0).mono ?_
  rintro e w1 ⟨rfl, g1⟩
  obtain ⟨p0, p1⟩ := box2 rfl g1
  have hs : w.heap.size < w1.heap.size := by have := g1.size; simp at this; omega
  have b1 : Bl w w1 := b0.trans g1
  have G1 := g1
  go_wp2_with fail
  refine (HB.out _ b1).mono ?_
  rintro e w2 ⟨v, rfl, hv, g2⟩
  obtain ⟨o2, n2, c2, rfl⟩ := hv.form
  have G2 := G1.trans g2
  clear p0 p1
  obtain ⟨p0, p1⟩ := box2 rfl G2
  replace hs : w.heap.size < w2.heap.size := by have := g2.size; omega
  have b2 : Bl w w2 := b1.trans g2
  go_wp2_with fail
  have a3 : Bl w2 (w2.alloc (.cells #[.int .i64 k, .slice o2 n2 c2] 24)) := (Bl.refl w2).alloc _
  refine (HS.out o2 n2 c2 _ (b2.trans a3) (hv.bl a3)).mono ?_
  rintro e w3 ⟨rfl, g3⟩
  replace g3 := a3.trans g3
  have G3 := G2.trans g3
  clear p0 p1
  obtain ⟨p0, p1⟩ := box2 rfl G3
  replace hs : w.heap.size < w3.heap.size := by have := g3.size; omega
  have b3 : Bl w w3 := b2.trans g3
  clear hv
  go_wp2_with fail
  refine (HI.out _ b3).mono ?_
  rintro e w4 ⟨v, rfl, hv, g4⟩
  obtain ⟨o4, n4, c4, rfl⟩ := hv.form
  have G4 := G3.trans g4
  clear p0 p1
  obtain ⟨p0, p1⟩ := box2 rfl G4
  replace hs : w.heap.size < w4.heap.size := by have := g4.size; omega
  have b4 : Bl w w4 := b3.trans g4
  go_wp2_with fail
  have a5 : Bl w4 (w4.alloc (.cells #[.int .i64 k2, .slice o4 n4 c4] 24)) := (Bl.refl w4).alloc _
  refine (HJ.out _ _ (hv.bl a5)).mono ?_
  rintro e w5 ⟨v, rfl, hu, g5⟩
  obtain ⟨o5, n5, c5, rfl⟩ := hu.form
  replace g5 := a5.trans g5
  have G5 := G4.trans g5
  clear p0 p1
  obtain ⟨p0, p1⟩ := box2 rfl G5
  replace hs : w.heap.size < w5.heap.size := by have := g5.size; omega
  have b5 : Bl w w5 := b4.trans g5
  go_wp2_with fail
  have a6 : Bl w5 (w5.alloc (.cells #[.int .i64 k, .slice o5 n5 c5] 24)) := (Bl.refl w5).alloc _
  refine (HS.out o5 n5 c5 _ (b5.trans a6) (hu.bl a6)).mono ?_
  rintro e w6 ⟨rfl, g6⟩
  replace g6 := a6.trans g6
  have G6 := G5.trans g6
  clear p0 p1
  obtain ⟨p0, p1⟩ := box2 rfl G6
  replace hs : w.heap.size < w6.heap.size := by have := g6.size; omega
  have b6 : Bl w w6 := b5.trans g6
  clear hv hu
  go_wp2_with fail
  refine (HR.out _ b6).mono ?_
  rintro e w7 ⟨o6, c6, rfl, g7⟩
  have G7 := G6.trans g7
  clear p0 p1
  obtain ⟨p0, p1⟩ := box2 rfl G7
  replace hs : w.heap.size < w7.heap.size := by have := g7.size; omega
  have b7 : Bl w w7 := b6.trans g7
  go_wp2_with fail
  go_returns
  exact ⟨by first | rfl | exact (by simp), by first | exact b7 | exact b7.alloc _⟩
set_option maxRecDepth 100000 in
set_option maxHeartbeats 3200000 in
theorem walk101 (k : Int) (o : Option Addr) (n cap : Nat) (l : List (Int × Int)) (s : ByteArray) (w : World) (h : PtsAny w (.slice o n cap) l) (t : ByteArray) (k2 x2 : Int) (hx2 : (x2 == 0) = false) (k3 : Int) (l3 : List (Int × Int))
    (HA : ∀ w', Bl w w' → Calls Tryd.prog 23 #[.agg #[.int .i64 k, .slice o n cap]] w' (CtIs t 0 w'))
    (HB : ∀ w', Bl w w' → Calls Tryd.prog 27 #[.string t] w' (RcOk k l w'))
    (HI : ∀ w', Bl w w' → Calls Tryd.prog 30 #[.agg #[.int .i64 k, .slice o n cap]] w' (RcNo k2 x2 w'))
    (HR : ∀ w', Bl w w' → Calls Tryd.prog 27 #[.string s] w' (RcOk k3 l3 w'))
    (HT : ∀ v w', Bl w w' → PtsAny w' v l3 → Calls Tryd.prog 23 #[.agg #[.int .i64 k3, v]] w' (CtIs s 0 w')) :
    Calls Tryd.prog 9 #[.agg #[.int .i64 k, .slice o n cap], .string s] w fun e w' => e = .returned (.bool true) ∧ Bl w w' := by
  have HH := Lib.hid h
  replace HA := Lib.hid HA
  replace HB := Lib.hid HB
  replace HI := Lib.hid HI
  replace HR := Lib.hid HR
  replace HT := Lib.hid HT
  have HS := Lib.hid (fun o1 n1 c1 w' (g : Bl w w') (h1 : PtsAny w' (.slice o1 n1 c1) l) => sameCurve_ok k o1 n1 c1 o n cap l w' h1 (h.bl g))
  clear h
  go_enter Tryd.func9, Tryd.ntmps9
  have g0 : Bl w w := Bl.refl w
  go_wp2_with fail
  have b0 : Bl w (w.alloc (.cells #[.int .i64 k, .slice o n cap] 24)) := (Bl.refl w).alloc _
  refine (HA.out _ b0).mono ?_
  rintro e w1 ⟨rfl, g1⟩
  obtain ⟨p0, p1⟩ := box2 rfl g1
  have hs : w.heap.size < w1.heap.size := by have := g1.size; simp at this; omega
  have b1 : Bl w w1 := b0.trans g1
  have G1 := g1
  go_wp2_with fail
  refine (HB.out _ b1).mono ?_
  rintro e w2 ⟨v, rfl, hv, g2⟩
  obtain ⟨o2, n2, c2, rfl⟩ := hv.form
  have G2 := G1.trans g2
  clear p0 p1
  obtain ⟨p0, p1⟩ := box2 rfl G2
  replace hs : w.heap.size < w2.heap.size := by have := g2.size; omega
  have b2 : Bl w w2 := b1.trans g2
  go_wp2_with fail
  have a3 : Bl w2 (w2.alloc (.cells #[.int .i64 k, .slice o2 n2 c2] 24)) := (Bl.refl w2).alloc _
  refine (HS.out o2 n2 c2 _ (b2.trans a3) (hv.bl a3)).mono ?_
  rintro e w3 ⟨rfl, g3⟩
  replace g3 := a3.trans g3
  have G3 := G2.trans g3
  clear p0 p1
  obtain ⟨p0, p1⟩ := box2 rfl G3
  replace hs : w.heap.size < w3.heap.size := by have := g3.size; omega
  have b3 : Bl w w3 := b2.trans g3
  clear hv
  go_wp2_with fail
  refine (HI.out _ b3).mono ?_
  rintro e w4 ⟨o4, c4, rfl, g4⟩
  have G4 := G3.trans g4
  clear p0 p1
  obtain ⟨p0, p1⟩ := box2 rfl G4
  replace hs : w.heap.size < w4.heap.size := by have := g4.size; omega
  have b4 : Bl w w4 := b3.trans g4
  go_wp2_with fail
  have a5 : Bl w4 (w4.alloc (.cells #[.int .i64 k2, .slice o4 0 c4] 24)) := (Bl.refl w4).alloc _
  refine (HR.out _ (b4.trans a5)).mono ?_
  rintro e w5 ⟨v, rfl, hv, g5⟩
  obtain ⟨o6, n6, c6, rfl⟩ := hv.form
  replace g5 := a5.trans g5
  have G5 := G4.trans g5
  clear p0 p1
  obtain ⟨p0, p1⟩ := box2 rfl G5
  replace hs : w.heap.size < w5.heap.size := by have := g5.size; omega
  have b5 : Bl w w5 := b4.trans g5
  go_wp2_with fail
  have a6 : Bl w5 (w5.alloc (.cells #[.int .i64 k3, .slice o6 n6 c6] 24)) := (Bl.refl w5).alloc _
  refine (HT.out _ _ (b5.trans a6) (hv.bl a6)).mono ?_
  rintro e w6 ⟨rfl, g6⟩
  replace g6 := a6.trans g6
  have G6 := G5.trans g6
  clear p0 p1
  obtain ⟨p0, p1⟩ := box2 rfl G6
  replace hs : w.heap.size < w6.heap.size := by have := g6.size; omega
  have b6 : Bl w w6 := b5.trans g6
  go_wp2_with fail
  go_returns
  exact ⟨by first | rfl | exact (by simp), b6⟩
set_option maxRecDepth 100000 in
set_option maxHeartbeats 3200000 in
theorem walk100 (k : Int) (o : Option Addr) (n cap : Nat) (l : List (Int × Int)) (s : ByteArray) (w : World) (h : PtsAny w (.slice o n cap) l) (t : ByteArray) (k2 x2 : Int) (hx2 : (x2 == 0) = false) (k3 x3 : Int) (hx3 : (x3 != 0) = true)
    (HA : ∀ w', Bl w w' → Calls Tryd.prog 23 #[.agg #[.int .i64 k, .slice o n cap]] w' (CtIs t 0 w'))
    (HB : ∀ w', Bl w w' → Calls Tryd.prog 27 #[.string t] w' (RcOk k l w'))
    (HI : ∀ w', Bl w w' → Calls Tryd.prog 30 #[.agg #[.int .i64 k, .slice o n cap]] w' (RcNo k2 x2 w'))
    (HR : ∀ w', Bl w w' → Calls Tryd.prog 27 #[.string s] w' (RcNo k3 x3 w')) :
    Calls Tryd.prog 9 #[.agg #[.int .i64 k, .slice o n cap], .string s] w fun e w' => e = .returned (.bool true) ∧ Bl w w' := by
  have HH := Lib.hid h
  replace HA := Lib.hid HA
  replace HB := Lib.hid HB
  replace HI := Lib.hid HI
  replace HR := Lib.hid HR
  have HS := Lib.hid (fun o1 n1 c1 w' (g : Bl w w') (h1 : PtsAny w' (.slice o1 n1 c1) l) => sameCurve_ok k o1 n1 c1 o n cap l w' h1 (h.bl g))
  clear h
  go_enter Tryd.func9, Tryd.ntmps9
  have g0 : Bl w w := Bl.refl w
  go_wp2_with fail
  have b0 : Bl w (w.alloc (.cells #[.int .i64 k, .slice o n cap] 24)) := (Bl.refl w).alloc _
  refine (HA.out _ b0).mono ?_
  rintro e w1 ⟨rfl, g1⟩
  obtain ⟨p0, p1⟩ := box2 rfl g1
  have hs : w.heap.size < w1.heap.size := by have := g1.size; simp at this; omega
  have b1 : Bl w w1 := b0.trans g1
  have G1 := g1
  go_wp2_with fail
  refine (HB.out _ b1).mono ?_
  rintro e w2 ⟨v, rfl, hv, g2⟩
  obtain ⟨o2, n2, c2, rfl⟩ := hv.form
  have G2 := G1.trans g2
  clear p0 p1
  obtain ⟨p0, p1⟩ := box2 rfl G2
  replace hs : w.heap.size < w2.heap.size := by have := g2.size; omega
  have b2 : Bl w w2 := b1.trans g2
  go_wp2_with fail
  have a3 : Bl w2 (w2.alloc (.cells #[.int .i64 k, .slice o2 n2 c2] 24)) := (Bl.refl w2).alloc _
  refine (HS.out o2 n2 c2 _ (b2.trans a3) (hv.bl a3)).mono ?_
  rintro e w3 ⟨rfl, g3⟩
  replace g3 := a3.trans g3
  have G3 := G2.trans g3
  clear p0 p1
  obtain ⟨p0, p1⟩ := box2 rfl G3
  replace hs : w.heap.size < w3.heap.size := by have := g3.size; omega
  have b3 : Bl w w3 := b2.trans g3
  clear hv
  go_wp2_with fail
  refine (HI.out _ b3).mono ?_
  rintro e w4 ⟨o4, c4, rfl, g4⟩
  have G4 := G3.trans g4
  clear p0 p1
  obtain ⟨p0, p1⟩ := box2 rfl G4
  replace hs : w.heap.size < w4.heap.size := by have := g4.size; omega
  have b4 : Bl w w4 := b3.trans g4
  go_wp2_with fail
  have a5 : Bl w4 (w4.alloc (.cells #[.int .i64 k2, .slice o4 0 c4] 24)) := (Bl.refl w4).alloc _
  refine (HR.out _ (b4.trans a5)).mono ?_
  rintro e w5 ⟨o6, c6, rfl, g5⟩
  replace g5 := a5.trans g5
  have G5 := G4.trans g5
  clear p0 p1
  obtain ⟨p0, p1⟩ := box2 rfl G5
  replace hs : w.heap.size < w5.heap.size := by have := g5.size; omega
  have b5 : Bl w w5 := b4.trans g5
  go_wp2_with fail
  go_returns
  exact ⟨by first | rfl | exact (by simp), by first | exact b5 | exact b5.alloc _⟩
set_option maxRecDepth 100000 in
set_option maxHeartbeats 3200000 in
theorem walk001 (k : Int) (o : Option Addr) (n cap : Nat) (l : List (Int × Int)) (s : ByteArray) (w : World) (h : PtsAny w (.slice o n cap) l) (t : ByteArray) (x1 : Int) (hx1 : (x1 == 0) = false) (k2 x2 : Int) (hx2 : (x2 == 0) = false) (k3 : Int) (l3 : List (Int × Int))
    (HA : ∀ w', Bl w w' → Calls Tryd.prog 23 #[.agg #[.int .i64 k, .slice o n cap]] w' (CtIs t x1 w'))
    (HI : ∀ w', Bl w w' → Calls Tryd.prog 30 #[.agg #[.int .i64 k, .slice o n cap]] w' (RcNo k2 x2 w'))
    (HR : ∀ w', Bl w w' → Calls Tryd.prog 27 #[.string s] w' (RcOk k3 l3 w'))
    (HT : ∀ v w', Bl w w' → PtsAny w' v l3 → Calls Tryd.prog 23 #[.agg #[.int .i64 k3, v]] w' (CtIs s 0 w')) :
    Calls Tryd.prog 9 #[.agg #[.int .i64 k, .slice o n cap], .string s] w fun e w' => e = .returned (.bool true) ∧ Bl w w' := by
  have HH := Lib.hid h
  replace HA := Lib.hid HA
  replace HI := Lib.hid HI
  replace HR := Lib.hid HR
  replace HT := Lib.hid HT
  have HS := Lib.hid (fun o1 n1 c1 w' (g : Bl w w') (h1 : PtsAny w' (.slice o1 n1 c1) l) => sameCurve_ok k o1 n1 c1 o n cap l w' h1 (h.bl g))
  clear h
  go_enter Tryd.func9, Tryd.ntmps9
  have g0 : Bl w w := Bl.refl w
  go_wp2_with fail
  have b0 : Bl w (w.alloc (.cells #[.int .i64 k, .slice o n cap] 24)) := (Bl.refl w).alloc _
  refine (HA.out _ b0).mono ?_
  rintro e w1 ⟨rfl, g1⟩
  obtain ⟨p0, p1⟩ := box2 rfl g1
  have hs : w.heap.size < w1.heap.size := by have := g1.size; simp at this; omega
  have b1 : Bl w w1 := b0.trans g1
  have G1 := g1
  go_wp2_with fail
  refine (HI.out _ b1).mono ?_
  rintro e w2 ⟨o4, c4, rfl, g2⟩
  have G2 := G1.trans g2
  clear p0 p1
  obtain ⟨p0, p1⟩ := box2 rfl G2
  replace hs : w.heap.size < w2.heap.size := by have := g2.size; omega
  have b2 : Bl w w2 := b1.trans g2
  go_wp2_with fail
  have a3 : Bl w2 (w2.alloc (.cells #[.int .i64 k2, .slice o4 0 c4] 24)) := (Bl.refl w2).alloc _
  refine (HR.out _ (b2.trans a3)).mono ?_
  rintro e w3 ⟨v, rfl, hv, g3⟩
  obtain ⟨o6, n6, c6, rfl⟩ := hv.form
  replace g3 := a3.trans g3
  have G3 := G2.trans g3
  clear p0 p1
  obtain ⟨p0, p1⟩ := box2 rfl G3
  replace hs : w.heap.size < w3.heap.size := by have := g3.size; omega
  have b3 : Bl w w3 := b2.trans g3
  go_wp2_with fail
  have a4 : Bl w3 (w3.alloc (.cells #[.int .i64 k3, .slice o6 n6 c6] 24)) := (Bl.refl w3).alloc _
  refine (HT.out _ _ (b3.trans a4) (hv.bl a4)).mono ?_
  rintro e w4 ⟨rfl, g4⟩
  replace g4 := a4.trans g4
  have G4 := G3.trans g4
  clear p0 p1
  obtain ⟨p0, p1⟩ := box2 rfl G4
  replace hs : w.heap.size < w4.heap.size := by have := g4.size; omega
  have b4 : Bl w w4 := b3.trans g4
  go_wp2_with fail
  go_returns
  exact ⟨by first | rfl | exact (by simp), b4⟩
set_option maxRecDepth 100000 in
set_option maxHeartbeats 3200000 in
theorem walk000 (k : Int) (o : Option Addr) (n cap : Nat) (l : List (Int × Int)) (s : ByteArray) (w : World) (h : PtsAny w (.slice o n cap) l) (t : ByteArray) (x1 : Int) (hx1 : (x1 == 0) = false) (k2 x2 : Int) (hx2 : (x2 == 0) = false) (k3 x3 : Int) (hx3 : (x3 != 0) = true)
    (HA : ∀ w', Bl w w' → Calls Tryd.prog 23 #[.agg #[.int .i64 k, .slice o n cap]] w' (CtIs t x1 w'))
    (HI : ∀ w', Bl w w' → Calls Tryd.prog 30 #[.agg #[.int .i64 k, .slice o n cap]] w' (RcNo k2 x2 w'))
    (HR : ∀ w', Bl w w' → Calls Tryd.prog 27 #[.string s] w' (RcNo k3 x3 w')) :
    Calls Tryd.prog 9 #[.agg #[.int .i64 k, .slice o n cap], .string s] w fun e w' => e = .returned (.bool true) ∧ Bl w w' := by
  have HH := Lib.hid h
  replace HA := Lib.hid HA
  replace HI := Lib.hid HI
  replace HR := Lib.hid HR
  have HS := Lib.hid (fun o1 n1 c1 w' (g : Bl w w') (h1 : PtsAny w' (.slice o1 n1 c1) l) => sameCurve_ok k o1 n1 c1 o n cap l w' h1 (h.bl g))
  clear h
  go_enter Tryd.func9, Tryd.ntmps9
  have g0 : Bl w w := Bl.refl w
  go_wp2_with fail
  have b0 : Bl w (w.alloc (.cells #[.int .i64 k, .slice o n cap] 24)) := (Bl.refl w).alloc _
  refine (HA.out _ b0).mono ?_
  rintro e w1 ⟨rfl, g1⟩
  obtain ⟨p0, p1⟩ := box2 rfl g1
  have hs : w.heap.size < w1.heap.size := by have := g1.size; simp at this; omega
  have b1 : Bl w w1 := b0.trans g1
  have G1 := g1
  go_wp2_with fail
  refine (HI.out _ b1).mono ?_
  rintro e w2 ⟨o4, c4, rfl, g2⟩
  have G2 := G1.trans g2
  clear p0 p1
  obtain ⟨p0, p1⟩ := box2 rfl G2
  replace hs : w.heap.size < w2.heap.size := by have := g2.size; omega
  have b2 : Bl w w2 := b1.trans g2
  go_wp2_with fail
  have a3 : Bl w2 (w2.alloc (.cells #[.int .i64 k2, .slice o4 0 c4] 24)) := (Bl.refl w2).alloc _
  refine (HR.out _ (b2.trans a3)).mono ?_
  rintro e w3 ⟨o6, c6, rfl, g3⟩
  replace g3 := a3.trans g3
  have G3 := G2.trans g3
  clear p0 p1
  obtain ⟨p0, p1⟩ := box2 rfl G3
  replace hs : w.heap.size < w3.heap.size := by have := g3.size; omega
  have b3 : Bl w w3 := b2.trans g3
  go_wp2_with fail
  go_returns
  exact ⟨by first | rfl | exact (by simp), by first | exact b3 | exact b3.alloc _⟩
end Go.Proofs.YtfeeolfekfkdiaaDoor.curvback
