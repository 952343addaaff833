/- Filter of the program and of the reference. -/
import Derived.Test.YtdmpdcggepfaiaaWayD
import Derived.Test.YtdmpdcggepfaiaaWayE
import Derived.Test.YtdmpdcggepfaiaaRefT3
namespace Go.Proofs.Ytdmpdcggepfaiaa
open Go.RowKit Go.Sort

def filV (r g b x y z : Int) : Int × Int × Int := if (isCol r g b && isCol x y z) = true then (scV r x, scV g y, scV b z) else (0, 0, 0)
def filX (r g b x y z : Int) : Int := if (isCol r g b && isCol x y z) = true then 0 else 1

set_option maxRecDepth 100000 in
set_option maxHeartbeats 1600000 in
theorem filter_red (r g b x y z : Int) (b1 b2 : Nat) (w : World) (h1 : Cel3 w b1 r g b) (h2 : Cel3 w b2 x y z) :
    Calls Try.prog 27 #[.func (.func 45) #[] #[], .pointer (some ⟨b1, 0, none⟩), .pointer (some ⟨b2, 0, none⟩)] w fun e w' => e = .returned (.int .i64 (scV r x)) ∧ Gr w w' := by
  obtain ⟨c0, c1, c2⟩ := h1
  obtain ⟨d0, d1, d2⟩ := h2
  have k0 := cell_grown (World.block_lt_of_cell? _ _ c0) c0
  have k1 := cell_grown (World.block_lt_of_cell? _ _ c1) c1
  have k2 := cell_grown (World.block_lt_of_cell? _ _ c2) c2
  have l0 := cell_grown (World.block_lt_of_cell? _ _ d0) d0
  have l1 := cell_grown (World.block_lt_of_cell? _ _ d1) d1
  have l2 := cell_grown (World.block_lt_of_cell? _ _ d2) d2
  have R1 := Lib.hid (fun w => red_any r g b w)
  have R2 := Lib.hid (fun w => red_any x y z w)
  have RM := Lib.hid (fun w => scale_prog r x w)
  clear c0 c1 c2 d0 d1 d2
  have mixed : Try.prog.follows .mixedOrders = true := by kernel_rfl
  go_enter Try.func27, Try.ntmps27
  go_wp2_with fail
  go_quiet_grown (first | (go_at_call 45; (first | (with_reducible exact grown_of (R1.out _)) | (with_reducible exact grown_of (R2.out _)))) | (go_at_call 28; exact grown_of (RM.out _)))
  go_wp2
  go_returns
  exact ⟨rfl, ((Gr.refl w).drewN _).grown _⟩

set_option maxRecDepth 100000 in
set_option maxHeartbeats 1600000 in
theorem filter_green (r g b x y z : Int) (b1 b2 : Nat) (w : World) (h1 : Cel3 w b1 r g b) (h2 : Cel3 w b2 x y z) :
    Calls Try.prog 27 #[.func (.func 46) #[] #[], .pointer (some ⟨b1, 0, none⟩), .pointer (some ⟨b2, 0, none⟩)] w fun e w' => e = .returned (.int .i64 (scV g y)) ∧ Gr w w' := by
  obtain ⟨c0, c1, c2⟩ := h1
  obtain ⟨d0, d1, d2⟩ := h2
  have k0 := cell_grown (World.block_lt_of_cell? _ _ c0) c0
  have k1 := cell_grown (World.block_lt_of_cell? _ _ c1) c1
  have k2 := cell_grown (World.block_lt_of_cell? _ _ c2) c2
  have l0 := cell_grown (World.block_lt_of_cell? _ _ d0) d0
  have l1 := cell_grown (World.block_lt_of_cell? _ _ d1) d1
  have l2 := cell_grown (World.block_lt_of_cell? _ _ d2) d2
  have R1 := Lib.hid (fun w => green_any r g b w)
  have R2 := Lib.hid (fun w => green_any x y z w)
  have RM := Lib.hid (fun w => scale_prog g y w)
  clear c0 c1 c2 d0 d1 d2
  have mixed : Try.prog.follows .mixedOrders = true := by kernel_rfl
  go_enter Try.func27, Try.ntmps27
  go_wp2_with fail
  go_quiet_grown (first | (go_at_call 46; (first | (with_reducible exact grown_of (R1.out _)) | (with_reducible exact grown_of (R2.out _)))) | (go_at_call 28; exact grown_of (RM.out _)))
  go_wp2
  go_returns
  exact ⟨rfl, ((Gr.refl w).drewN _).grown _⟩

set_option maxRecDepth 100000 in
set_option maxHeartbeats 1600000 in
theorem filter_blue (r g b x y z : Int) (b1 b2 : Nat) (w : World) (h1 : Cel3 w b1 r g b) (h2 : Cel3 w b2 x y z) :
    Calls Try.prog 27 #[.func (.func 47) #[] #[], .pointer (some ⟨b1, 0, none⟩), .pointer (some ⟨b2, 0, none⟩)] w fun e w' => e = .returned (.int .i64 (scV b z)) ∧ Gr w w' := by
  obtain ⟨c0, c1, c2⟩ := h1
  obtain ⟨d0, d1, d2⟩ := h2
  have k0 := cell_grown (World.block_lt_of_cell? _ _ c0) c0
  have k1 := cell_grown (World.block_lt_of_cell? _ _ c1) c1
  have k2 := cell_grown (World.block_lt_of_cell? _ _ c2) c2
  have l0 := cell_grown (World.block_lt_of_cell? _ _ d0) d0
  have l1 := cell_grown (World.block_lt_of_cell? _ _ d1) d1
  have l2 := cell_grown (World.block_lt_of_cell? _ _ d2) d2
  have R1 := Lib.hid (fun w => blue_any r g b w)
  have R2 := Lib.hid (fun w => blue_any x y z w)
  have RM := Lib.hid (fun w => scale_prog b z w)
  clear c0 c1 c2 d0 d1 d2
  have mixed : Try.prog.follows .mixedOrders = true := by kernel_rfl
  go_enter Try.func27, Try.ntmps27
  go_wp2_with fail
  go_quiet_grown (first | (go_at_call 47; (first | (with_reducible exact grown_of (R1.out _)) | (with_reducible exact grown_of (R2.out _)))) | (go_at_call 28; exact grown_of (RM.out _)))
  go_wp2
  go_returns
  exact ⟨rfl, ((Gr.refl w).drewN _).grown _⟩

set_option maxRecDepth 100000 in
set_option maxHeartbeats 3200000 in
theorem filter_any (r g b x y z : Int) (w : World) :
    Calls Try.prog 14 #[.agg #[.int .i64 r, .int .i64 g, .int .i64 b], .agg #[.int .i64 x, .int .i64 y, .int .i64 z]] w fun e w' =>
      e = .returned (.tuple #[.agg #[.int .i64 (filV r g b x y z).1, .int .i64 (filV r g b x y z).2.1, .int .i64 (filV r g b x y z).2.2], .int .i64 (filX r g b x y z)]) ∧ Gr w w' := by
  have hC := fun w => checkBoth_any r g b x y z w
  have HK := Lib.hid (fun w' (m : Gr (((w.alloc (.cells #[.int .i64 r, .int .i64 g, .int .i64 b] 23)).alloc (.cells #[.int .i64 x, .int .i64 y, .int .i64 z] 23)).alloc (.cells #[.int .i64 0, .int .i64 0, .int .i64 0] 23)) w') =>
    (show (Cel3 w' w.heap.size r g b ∧ Cel3 w' (w.heap.size + 1) x y z) ∧ Cel3 w' (w.heap.size + 1 + 1) 0 0 0 ∧ w'.frozen? ⟨w.heap.size + 1 + 1, 0, none⟩ = false ∧ w'.frozen? ⟨w.heap.size + 1 + 1, 1, none⟩ = false ∧ w'.frozen? ⟨w.heap.size + 1 + 1, 2, none⟩ = false from by
      obtain ⟨a, _⟩ := own3g (n := w.heap.size) rfl ((((Gr.refl (w.alloc (.cells #[.int .i64 r, .int .i64 g, .int .i64 b] 23))).alloc _).alloc _).trans m)
      obtain ⟨c, _⟩ := own3g (n := w.heap.size + 1) (by simp) (((Gr.refl ((w.alloc (.cells #[.int .i64 r, .int .i64 g, .int .i64 b] 23)).alloc (.cells #[.int .i64 x, .int .i64 y, .int .i64 z] 23))).alloc _).trans m)
      obtain ⟨d, f⟩ := own3g (n := w.heap.size + 1 + 1) (by simp) m
      exact ⟨⟨a, c⟩, d, f⟩))
  have h0 : Gr w (((w.alloc (.cells #[.int .i64 r, .int .i64 g, .int .i64 b] 23)).alloc (.cells #[.int .i64 x, .int .i64 y, .int .i64 z] 23)).alloc (.cells #[.int .i64 0, .int .i64 0, .int .i64 0] 23)) := (((Gr.refl w).alloc _).alloc _).alloc _
  cases hab : (isCol r g b && isCol x y z) with
  | false =>
    have hv : Hid (filV r g b x y z = (0, 0, 0) ∧ filX r g b x y z = 1) := by show _ ∧ _; unfold filV filX; rw [hab]; exact ⟨rfl, rfl⟩
    rw [hab] at hC
    have HC := Lib.hid hC
    clear hC hab
    rw [hv.out.1, hv.out.2]
    go_enter Try.func14, Try.ntmps14
    go_wp2_with fail
    refine (HC.out _).mono ?_
    rintro e w1 ⟨rfl, g1⟩
    obtain ⟨⟨⟨c0, c1, c2⟩, d0, d1, d2⟩, ⟨k0, k1, k2⟩, f0, f1, f2⟩ := HK.out _ g1
    go_wp2_with fail
    refine bodyPost_ret (v := .tuple #[.agg #[.int .i64 0, .int .i64 0, .int .i64 0], .int .i64 1]) ?_ rfl ⟨rfl, ?_⟩
    · simp [results, Try.results14, go_sem, k0, k1, k2]
    · exact set3g (by omega) (by ((repeat (first | with_reducible exact Gr.refl _ | with_reducible assumption | with_reducible refine Gr.drew ?_ | with_reducible refine Gr.alloc ?_ _ | with_reducible refine Gr.trans ?_ (by assumption))); done)) _ _ _
  | true =>
    have hv : Hid (filV r g b x y z = (scV r x, scV g y, scV b z) ∧ filX r g b x y z = 0) := by show _ ∧ _; unfold filV filX; rw [hab]; exact ⟨rfl, rfl⟩
    rw [hab] at hC
    have HC := Lib.hid hC
    clear hC hab
    rw [hv.out.1, hv.out.2]
    have HB := Lib.hid (fun W (hW : Gr (((w.alloc (.cells #[.int .i64 r, .int .i64 g, .int .i64 b] 23)).alloc (.cells #[.int .i64 x, .int .i64 y, .int .i64 z] 23)).alloc (.cells #[.int .i64 0, .int .i64 0, .int .i64 0] 23)) W) =>
      build_any 27 #[.pointer (some ⟨w.heap.size, 0, none⟩), .pointer (some ⟨w.heap.size + 1, 0, none⟩)] (scV r x) (scV g y) (scV b z) W
        (enters_of Try.func27 (by kernel_rfl) rfl)
        (fun w1 g1 => filter_red r g b x y z _ _ w1 (HK.out _ (hW.trans g1)).1.1 (HK.out _ (hW.trans g1)).1.2)
        (fun w1 g1 => filter_green r g b x y z _ _ w1 (HK.out _ (hW.trans g1)).1.1 (HK.out _ (hW.trans g1)).1.2)
        (fun w1 g1 => filter_blue r g b x y z _ _ w1 (HK.out _ (hW.trans g1)).1.1 (HK.out _ (hW.trans g1)).1.2))
    generalize scV r x = X at *
    generalize scV g y = Y at *
    generalize scV b z = Z at *
    go_enter Try.func14, Try.ntmps14
    go_wp2_with fail
    refine (HC.out _).mono ?_
    rintro e w1 ⟨rfl, g1⟩
    go_wp2_with fail
    refine (HB.out _ g1).mono ?_
    rintro e w2 ⟨rfl, g2⟩
    obtain ⟨⟨⟨c0, c1, c2⟩, d0, d1, d2⟩, ⟨k0, k1, k2⟩, f0, f1, f2⟩ := HK.out _ (g1.trans g2)
    have z0 : w.heap.size + 1 + 1 < w2.heap.size := World.block_lt_of_cell? _ _ k0
    go_wp2_with fail
    refine bodyPost_ret (v := .tuple #[.agg #[.int .i64 X, .int .i64 Y, .int .i64 Z], .int .i64 0]) ?_ rfl ⟨rfl, ?_⟩
    · simp [results, Try.results14, go_sem, k0, k1, k2, z0]
    · exact (set3g (by omega) (by ((repeat (first | with_reducible exact Gr.refl _ | with_reducible assumption | with_reducible refine Gr.drew ?_ | with_reducible refine Gr.alloc ?_ _ | with_reducible refine Gr.trans ?_ (by assumption))); done)) _ _ _).alloc _

set_option maxHeartbeats 800000 in
theorem both_ref3 (r g b x y z : Int) (w : World) :
    Calls Try.prog 29 #[.agg #[.int .i64 r, .int .i64 g, .int .i64 b], .agg #[.int .i64 x, .int .i64 y, .int .i64 z]] w fun e w' => e = .returned (.int .i64 (if (isCol r g b && isCol x y z) = true then 0 else 1)) ∧ Gr w w' := by
  have h1 := fun w => check_ref3g r g b w
  have h2 := fun w => check_ref3g x y z w
  unfold ckCol at h1 h2
  cases ha : isCol r g b with
  | false =>
    rw [ha] at h1
    have H1 := Lib.hid h1
    clear h1 h2 ha
    go_enter Try.func29, Try.ntmps29
    go_wp2_with fail
    refine (H1.out _).mono ?_
    rintro e w1 ⟨rfl, g1⟩
    go_wp2_with fail
    go_returns
    exact ⟨rfl, (((Gr.refl w).alloc _).alloc _).trans g1⟩
  | true =>
    rw [ha] at h1
    cases hb : isCol x y z with
    | false =>
      rw [hb] at h2
      have H1 := Lib.hid h1
      have H2 := Lib.hid h2
      clear h1 h2 ha hb
      go_enter Try.func29, Try.ntmps29
      go_wp2_with fail
      refine (H1.out _).mono ?_
      rintro e w1 ⟨rfl, g1⟩
      obtain ⟨c0, c1, c2⟩ := (own3g (n := w.heap.size + 1) (by simp) g1).1
      go_wp2_with fail
      refine (H2.out _).mono ?_
      rintro e w2 ⟨rfl, g2⟩
      go_wp2_with fail
      go_returns
      exact ⟨rfl, ((((Gr.refl w).alloc _).alloc _).trans g1).trans g2⟩
    | true =>
      rw [hb] at h2
      have H1 := Lib.hid h1
      have H2 := Lib.hid h2
      clear h1 h2 ha hb
      go_enter Try.func29, Try.ntmps29
      go_wp2_with fail
      refine (H1.out _).mono ?_
      rintro e w1 ⟨rfl, g1⟩
      obtain ⟨c0, c1, c2⟩ := (own3g (n := w.heap.size + 1) (by simp) g1).1
      go_wp2_with fail
      refine (H2.out _).mono ?_
      rintro e w2 ⟨rfl, g2⟩
      go_wp2_with fail
      go_returns
      exact ⟨rfl, ((((Gr.refl w).alloc _).alloc _).trans g1).trans g2⟩

theorem both_ref3b (r g b x y z : Int) (w : World) :
    Calls Try.prog 29 #[.agg #[.int .i64 r, .int .i64 g, .int .i64 b], .agg #[.int .i64 x, .int .i64 y, .int .i64 z]] w fun e w' => e = .returned (.int .i64 (if (isCol r g b && isCol x y z) = true then 0 else 1)) ∧ Bl w w' :=
  (both_ref3 r g b x y z w).mono fun _ _ ⟨a, c⟩ => ⟨a, c.bl⟩

set_option maxRecDepth 100000 in
set_option maxHeartbeats 3200000 in
theorem filter_ref (r g b x y z : Int) (w : World) :
    Calls Try.prog 15 #[.agg #[.int .i64 r, .int .i64 g, .int .i64 b], .agg #[.int .i64 x, .int .i64 y, .int .i64 z]] w fun e w' =>
      e = .returned (.tuple #[.agg #[.int .i64 (filV r g b x y z).1, .int .i64 (filV r g b x y z).2.1, .int .i64 (filV r g b x y z).2.2], .int .i64 (filX r g b x y z)]) ∧ Bl w w' := by
  have hC := fun w => both_ref3b r g b x y z w
  have HK := Lib.hid (fun w' (m : Bl (((w.alloc (.cells #[.int .i64 r, .int .i64 g, .int .i64 b] 23)).alloc (.cells #[.int .i64 x, .int .i64 y, .int .i64 z] 23)).alloc (.cells #[.int .i64 0, .int .i64 0, .int .i64 0] 23)) w') =>
    (show (Cel3 w' w.heap.size r g b ∧ Cel3 w' (w.heap.size + 1) x y z) ∧ Cel3 w' (w.heap.size + 1 + 1) 0 0 0 ∧ w'.frozen? ⟨w.heap.size + 1 + 1, 0, none⟩ = false ∧ w'.frozen? ⟨w.heap.size + 1 + 1, 1, none⟩ = false ∧ w'.frozen? ⟨w.heap.size + 1 + 1, 2, none⟩ = false from by
      obtain ⟨a, _⟩ := own3b (n := w.heap.size) rfl ((((Bl.refl (w.alloc (.cells #[.int .i64 r, .int .i64 g, .int .i64 b] 23))).alloc _).alloc _).trans m)
      obtain ⟨c, _⟩ := own3b (n := w.heap.size + 1) (by simp) (((Bl.refl ((w.alloc (.cells #[.int .i64 r, .int .i64 g, .int .i64 b] 23)).alloc (.cells #[.int .i64 x, .int .i64 y, .int .i64 z] 23))).alloc _).trans m)
      obtain ⟨d, f⟩ := own3b (n := w.heap.size + 1 + 1) (by simp) m
      exact ⟨⟨a, c⟩, d, f⟩))
  have h0 : Bl w (((w.alloc (.cells #[.int .i64 r, .int .i64 g, .int .i64 b] 23)).alloc (.cells #[.int .i64 x, .int .i64 y, .int .i64 z] 23)).alloc (.cells #[.int .i64 0, .int .i64 0, .int .i64 0] 23)) := (((Bl.refl w).alloc _).alloc _).alloc _
  have S1 := Lib.hid (fun w => scale_ref r x w)
  have S2 := Lib.hid (fun w => scale_ref g y w)
  have S3 := Lib.hid (fun w => scale_ref b z w)
  cases hab : (isCol r g b && isCol x y z) with
  | false =>
    have hv : Hid (filV r g b x y z = (0, 0, 0) ∧ filX r g b x y z = 1) := by show _ ∧ _; unfold filV filX; rw [hab]; exact ⟨rfl, rfl⟩
    rw [hab] at hC
    have HC := Lib.hid hC
    clear hC hab
    rw [hv.out.1, hv.out.2]
    go_enter Try.func15, Try.ntmps15
    go_wp2_with fail
    refine (HC.out _).mono ?_
    rintro e w1 ⟨rfl, g1⟩
    obtain ⟨⟨⟨c0, c1, c2⟩, d0, d1, d2⟩, ⟨k0, k1, k2⟩, f0, f1, f2⟩ := HK.out _ g1
    go_wp2_with fail
    refine bodyPost_ret (v := .tuple #[.agg #[.int .i64 0, .int .i64 0, .int .i64 0], .int .i64 1]) ?_ rfl ⟨rfl, ?_⟩
    · simp [results, Try.results15, go_sem, k0, k1, k2]
    · exact set3b (by omega) (h0.trans g1) _ _ _
  | true =>
    have hv : Hid (filV r g b x y z = (scV r x, scV g y, scV b z) ∧ filX r g b x y z = 0) := by show _ ∧ _; unfold filV filX; rw [hab]; exact ⟨rfl, rfl⟩
    rw [hab] at hC
    have HC := Lib.hid hC
    clear hC hab
    rw [hv.out.1, hv.out.2]
    generalize scV r x = X at *
    generalize scV g y = Y at *
    generalize scV b z = Z at *
    go_enter Try.func15, Try.ntmps15
    go_wp2_with fail
    refine (HC.out _).mono ?_
    rintro e w1 ⟨rfl, g1⟩
    obtain ⟨⟨⟨c0, c1, c2⟩, d0, d1, d2⟩, _⟩ := HK.out _ g1
    go_wp2_with fail
    refine (S1.out _).mono ?_
    rintro e w2 ⟨rfl, g2⟩
    clear c0 c1 c2 d0 d1 d2
    obtain ⟨⟨⟨c0, c1, c2⟩, d0, d1, d2⟩, _⟩ := HK.out _ (g1.trans g2)
    go_wp2_with fail
    refine (S2.out _).mono ?_
    rintro e w3 ⟨rfl, g3⟩
    clear c0 c1 c2 d0 d1 d2
    obtain ⟨⟨⟨c0, c1, c2⟩, d0, d1, d2⟩, _⟩ := HK.out _ ((g1.trans g2).trans g3)
    go_wp2_with fail
    refine (S3.out _).mono ?_
    rintro e w4 ⟨rfl, g4⟩
    clear c0 c1 c2 d0 d1 d2
    obtain ⟨⟨⟨c0, c1, c2⟩, d0, d1, d2⟩, ⟨k0, k1, k2⟩, f0, f1, f2⟩ := HK.out _ (((g1.trans g2).trans g3).trans g4)
    go_wp2_with fail
    refine bodyPost_ret (v := .tuple #[.agg #[.int .i64 X, .int .i64 Y, .int .i64 Z], .int .i64 0]) ?_ rfl ⟨rfl, ?_⟩
    · simp [results, Try.results15, go_sem, k0, k1, k2]
    · exact set3b (by omega) (h0.trans (((g1.trans g2).trans g3).trans g4)) _ _ _
end Go.Proofs.Ytdmpdcggepfaiaa
