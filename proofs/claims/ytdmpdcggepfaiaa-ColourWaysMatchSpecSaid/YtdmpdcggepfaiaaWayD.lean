/- Ways between colours: build, the journeys and what they are made of. -/
import Derived.Test.YtdmpdcggepfaiaaWayC
import Derived.Shelf.SlSortCmp.QuietGrown
namespace Go.Proofs.Ytdmpdcggepfaiaa
open Go.RowKit Go.Sort

set_option maxRecDepth 100000 in
set_option maxHeartbeats 1600000 in
theorem build_any (G : FuncId) (caps : Array Value) (x y z : Int) (w : World) (eg : ∀ args w, (callFunc G args).run Try.prog w = .ok (.enter G args) w)
    (h1 : ∀ w1, Gr w w1 → Calls Try.prog G (#[.func (.func 45) #[] #[]] ++ caps) w1 fun e w' => e = .returned (.int .i64 x) ∧ Gr w1 w')
    (h2 : ∀ w1, Gr w w1 → Calls Try.prog G (#[.func (.func 46) #[] #[]] ++ caps) w1 fun e w' => e = .returned (.int .i64 y) ∧ Gr w1 w')
    (h3 : ∀ w1, Gr w w1 → Calls Try.prog G (#[.func (.func 47) #[] #[]] ++ caps) w1 fun e w' => e = .returned (.int .i64 z) ∧ Gr w1 w') :
    Calls Try.prog 26 #[.func (.func G) #[] caps] w fun e w' => e = .returned (.agg #[.int .i64 x, .int .i64 y, .int .i64 z]) ∧ Gr w w' := by
  have H1 := Lib.hid h1
  have H2 := Lib.hid h2
  have H3 := Lib.hid h3
  clear h1 h2 h3
  go_enter Try.func26, Try.ntmps26
  go_wp2_with fail
  refine (H1.out _ ((Gr.refl w).alloc _)).mono ?_
  rintro e w1 ⟨rfl, g1⟩
  go_wp2_with fail
  refine (H2.out _ (((Gr.refl w).alloc _).trans g1)).mono ?_
  rintro e w2 ⟨rfl, g2⟩
  go_wp2_with fail
  refine (H3.out _ ((((Gr.refl w).alloc _).trans g1).trans g2)).mono ?_
  rintro e w3 ⟨rfl, g3⟩
  obtain ⟨⟨k0, k1, k2⟩, f0, f1, f2⟩ := own3g (n := w.heap.size) rfl ((g1.trans g2).trans g3)
  go_wp2_with fail
  refine bodyPost_ret (v := .agg #[.int .i64 x, .int .i64 y, .int .i64 z]) ?_ rfl ⟨rfl, ?_⟩
  · simp [results, Try.results26, go_sem, k0, k1, k2]
  · exact set3g (Nat.le_refl _) (((((Gr.refl w).alloc _).trans g1).trans g2).trans g3) _ _ _

set_option maxRecDepth 100000 in
set_option maxHeartbeats 1600000 in
theorem straight_red (r g b x y z p q : Int) (b1 b2 b3 b4 : Nat) (w : World)
    (c0 : w.cell? ⟨b1, 0, none⟩ = some (.int .i64 r)) (c1 : w.cell? ⟨b1, 1, none⟩ = some (.int .i64 g)) (c2 : w.cell? ⟨b1, 2, none⟩ = some (.int .i64 b))
    (d0 : w.cell? ⟨b2, 0, none⟩ = some (.int .i64 x)) (d1 : w.cell? ⟨b2, 1, none⟩ = some (.int .i64 y)) (d2 : w.cell? ⟨b2, 2, none⟩ = some (.int .i64 z))
    (e0 : w.cell? ⟨b3, 0, none⟩ = some (.int .i64 p)) (f0 : w.cell? ⟨b4, 0, none⟩ = some (.int .i64 q)) :
    Calls Try.prog 71 #[.func (.func 45) #[] #[], .pointer (some ⟨b1, 0, none⟩), .pointer (some ⟨b2, 0, none⟩), .pointer (some ⟨b3, 0, none⟩), .pointer (some ⟨b4, 0, none⟩)] w fun e w' => e = .returned (.int .i64 (mxV r x p q)) ∧ Gr w w' := by
  have k0 := cell_grown (World.block_lt_of_cell? _ _ c0) c0
  have k1 := cell_grown (World.block_lt_of_cell? _ _ c1) c1
  have k2 := cell_grown (World.block_lt_of_cell? _ _ c2) c2
  have l0 := cell_grown (World.block_lt_of_cell? _ _ d0) d0
  have l1 := cell_grown (World.block_lt_of_cell? _ _ d1) d1
  have l2 := cell_grown (World.block_lt_of_cell? _ _ d2) d2
  have m0 := cell_grown (World.block_lt_of_cell? _ _ e0) e0
  have n0 := cell_grown (World.block_lt_of_cell? _ _ f0) f0
  have R1 := Lib.hid (fun w => red_any r g b w)
  have R2 := Lib.hid (fun w => red_any x y z w)
  have RM := Lib.hid (fun w => mix_col r x p q w)
  clear c0 c1 c2 d0 d1 d2 e0 f0
  have mixed : Try.prog.follows .mixedOrders = true := by kernel_rfl
  go_enter Try.func71, Try.ntmps71
  go_wp2_with fail
  go_quiet_grown (first | (go_at_call 45; (first | (with_reducible exact grown_of (R1.out _)) | (with_reducible exact grown_of (R2.out _)))) | (go_at_call 72; exact grown_of (RM.out _)))
  go_wp2
  go_returns
  exact ⟨rfl, ((Gr.refl w).drewN _).grown _⟩

set_option maxRecDepth 100000 in
set_option maxHeartbeats 1600000 in
theorem straight_green (r g b x y z p q : Int) (b1 b2 b3 b4 : Nat) (w : World)
    (c0 : w.cell? ⟨b1, 0, none⟩ = some (.int .i64 r)) (c1 : w.cell? ⟨b1, 1, none⟩ = some (.int .i64 g)) (c2 : w.cell? ⟨b1, 2, none⟩ = some (.int .i64 b))
    (d0 : w.cell? ⟨b2, 0, none⟩ = some (.int .i64 x)) (d1 : w.cell? ⟨b2, 1, none⟩ = some (.int .i64 y)) (d2 : w.cell? ⟨b2, 2, none⟩ = some (.int .i64 z))
    (e0 : w.cell? ⟨b3, 0, none⟩ = some (.int .i64 p)) (f0 : w.cell? ⟨b4, 0, none⟩ = some (.int .i64 q)) :
    Calls Try.prog 71 #[.func (.func 46) #[] #[], .pointer (some ⟨b1, 0, none⟩), .pointer (some ⟨b2, 0, none⟩), .pointer (some ⟨b3, 0, none⟩), .pointer (some ⟨b4, 0, none⟩)] w fun e w' => e = .returned (.int .i64 (mxV g y p q)) ∧ Gr w w' := by
  have k0 := cell_grown (World.block_lt_of_cell? _ _ c0) c0
  have k1 := cell_grown (World.block_lt_of_cell? _ _ c1) c1
  have k2 := cell_grown (World.block_lt_of_cell? _ _ c2) c2
  have l0 := cell_grown (World.block_lt_of_cell? _ _ d0) d0
  have l1 := cell_grown (World.block_lt_of_cell? _ _ d1) d1
  have l2 := cell_grown (World.block_lt_of_cell? _ _ d2) d2
  have m0 := cell_grown (World.block_lt_of_cell? _ _ e0) e0
  have n0 := cell_grown (World.block_lt_of_cell? _ _ f0) f0
  have R1 := Lib.hid (fun w => green_any r g b w)
  have R2 := Lib.hid (fun w => green_any x y z w)
  have RM := Lib.hid (fun w => mix_col g y p q w)
  clear c0 c1 c2 d0 d1 d2 e0 f0
  have mixed : Try.prog.follows .mixedOrders = true := by kernel_rfl
  go_enter Try.func71, Try.ntmps71
  go_wp2_with fail
  go_quiet_grown (first | (go_at_call 46; (first | (with_reducible exact grown_of (R1.out _)) | (with_reducible exact grown_of (R2.out _)))) | (go_at_call 72; exact grown_of (RM.out _)))
  go_wp2
  go_returns
  exact ⟨rfl, ((Gr.refl w).drewN _).grown _⟩

set_option maxRecDepth 100000 in
set_option maxHeartbeats 1600000 in
theorem straight_blue (r g b x y z p q : Int) (b1 b2 b3 b4 : Nat) (w : World)
    (c0 : w.cell? ⟨b1, 0, none⟩ = some (.int .i64 r)) (c1 : w.cell? ⟨b1, 1, none⟩ = some (.int .i64 g)) (c2 : w.cell? ⟨b1, 2, none⟩ = some (.int .i64 b))
    (d0 : w.cell? ⟨b2, 0, none⟩ = some (.int .i64 x)) (d1 : w.cell? ⟨b2, 1, none⟩ = some (.int .i64 y)) (d2 : w.cell? ⟨b2, 2, none⟩ = some (.int .i64 z))
    (e0 : w.cell? ⟨b3, 0, none⟩ = some (.int .i64 p)) (f0 : w.cell? ⟨b4, 0, none⟩ = some (.int .i64 q)) :
    Calls Try.prog 71 #[.func (.func 47) #[] #[], .pointer (some ⟨b1, 0, none⟩), .pointer (some ⟨b2, 0, none⟩), .pointer (some ⟨b3, 0, none⟩), .pointer (some ⟨b4, 0, none⟩)] w fun e w' => e = .returned (.int .i64 (mxV b z p q)) ∧ Gr w w' := by
  have k0 := cell_grown (World.block_lt_of_cell? _ _ c0) c0
  have k1 := cell_grown (World.block_lt_of_cell? _ _ c1) c1
  have k2 := cell_grown (World.block_lt_of_cell? _ _ c2) c2
  have l0 := cell_grown (World.block_lt_of_cell? _ _ d0) d0
  have l1 := cell_grown (World.block_lt_of_cell? _ _ d1) d1
  have l2 := cell_grown (World.block_lt_of_cell? _ _ d2) d2
  have m0 := cell_grown (World.block_lt_of_cell? _ _ e0) e0
  have n0 := cell_grown (World.block_lt_of_cell? _ _ f0) f0
  have R1 := Lib.hid (fun w => blue_any r g b w)
  have R2 := Lib.hid (fun w => blue_any x y z w)
  have RM := Lib.hid (fun w => mix_col b z p q w)
  clear c0 c1 c2 d0 d1 d2 e0 f0
  have mixed : Try.prog.follows .mixedOrders = true := by kernel_rfl
  go_enter Try.func71, Try.ntmps71
  go_wp2_with fail
  go_quiet_grown (first | (go_at_call 47; (first | (with_reducible exact grown_of (R1.out _)) | (with_reducible exact grown_of (R2.out _)))) | (go_at_call 72; exact grown_of (RM.out _)))
  go_wp2
  go_returns
  exact ⟨rfl, ((Gr.refl w).drewN _).grown _⟩
end Go.Proofs.Ytdmpdcggepfaiaa
