/- Emitters that are driven: greatest, and what is left of a component. -/
import Derived.Test.YtdmpdcggepfaiaaDoorDriveM
import Derived.Test.YtdmpdcggepfaiaaDoorTone
import Derived.Test.YtdmpdcggepfaiaaDoorBuild
namespace Go.Proofs.YtdmpdcggepfaiaaDoor
open Go.RowKit Go.Sort

theorem run_mn2 (ts : Array TypeId) (t : TypeId) (x y : Int) (w : World) : (Builtin.min_ ts t #[.int .i64 x, .int .i64 y]).run Tryd.prog w = .ok (.int .i64 (min x y)) w := by
  have e : (if y < x then y else x) = min x y := by rw [Int.min_def]; split <;> split <;> omega
  rw [← e]; simp [Builtin.min_, Builtin.min2]

set_option maxRecDepth 100000 in
set_option maxHeartbeats 3200000 in
theorem left_red (b off cap bl offl capl bc bs bv : Nat) (cr cg cb : Int) (L : List Em) (ls : Nat → Int) (w : World) (h0 : 0 < L.length) (h12 : L.length ≤ 12) (hL : EmsAt w b off L) (hv : EmsLv L)
    (hl : ∀ i, i < L.length → w.cell? ⟨bl, offl + i, none⟩ = some (.int .i64 (ls i))) (hlv : ∀ i, i < L.length → 0 ≤ ls i ∧ ls i ≤ 65535)
    (c0 : w.cell? ⟨bc, 0, none⟩ = some (.int .i64 cr)) (c1 : w.cell? ⟨bc, 1, none⟩ = some (.int .i64 cg)) (c2 : w.cell? ⟨bc, 2, none⟩ = some (.int .i64 cb)) (hc : 0 ≤ cr ∧ cr ≤ 65535)
    (d0 : w.cell? ⟨bs, 0, none⟩ = some (.slice (some ⟨b, off, none⟩) L.length cap)) (e0 : w.cell? ⟨bv, 0, none⟩ = some (.slice (some ⟨bl, offl, none⟩) L.length capl)) :
    Calls Tryd.prog 62 #[.func (.func 119) #[] #[], .pointer (some ⟨bc, 0, none⟩), .pointer (some ⟨bs, 0, none⟩), .pointer (some ⟨bv, 0, none⟩)] w fun e w' => e = .returned (.int .i64 (65535 * cr - sumN (fun i => emC Em.r L i * ls i) L.length)) ∧ Gr w w' := by
  have HR := Lib.hid (fun w => red_any cr cg cb w)
  have HS := Lib.hid (fun w' (g : Gr w w') => sum_red b off cap bl offl capl L ls w' h0 h12 (hL.gr g) hv (fun i hi => g.cell (hl i hi)) hlv)
  have hb := sumN_bd L.length (a := fun i => emC Em.r L i * ls i) (fun i hi => by
    rw [emC_at _ _ _ hi]
    exact lev_mul (hv L[i] (List.getElem_mem hi)).1 (hlv i hi))
  have k0 := cell_grown (World.block_lt_of_cell? _ _ c0) c0
  have k1 := cell_grown (World.block_lt_of_cell? _ _ c1) c1
  have k2 := cell_grown (World.block_lt_of_cell? _ _ c2) c2
  have l0 := cell_grown (World.block_lt_of_cell? _ _ d0) d0
  have m0 := cell_grown (World.block_lt_of_cell? _ _ e0) e0
  have mixed : Tryd.prog.follows .mixedOrders = true := by kernel_rfl
  clear hL hv hl hlv c0 c1 c2 d0 e0
  generalize sumN (fun i => emC Em.r L i * ls i) L.length = S at *
  obtain ⟨hb0, hb1⟩ := hb
  have hb2 : S ≤ 51538034700 := by omega
  have w0 : IntKind.i64.wrap (65535 * cr) = 65535 * cr := IntWalk.i64_in _ (by omega)
  have w1 : IntKind.i64.wrap (65535 * cr - S) = 65535 * cr - S := IntWalk.i64_in _ (by omega)
  clear hb1
  go_enter Tryd.func62, Tryd.ntmps62
  go_wp2_with fail
  go_quiet_grown (first | (go_at_call 119; exact grown_of (HR.out _)) | (go_at_call 63; exact grown_of (HS.out _ (((Gr.refl w).drewN _).grown _))))
  go_wp2
  go_returns
  exact ⟨rfl, ((Gr.refl w).drewN _).grown _⟩

set_option maxRecDepth 100000 in
set_option maxHeartbeats 3200000 in
theorem great_red (x y z X : Int) (caps : Array Value) (bc bf : Nat) (w : World) (x0 : 0 ≤ x) (X0 : 0 ≤ X) (X1 : X ≤ 4294836225)
    (c0 : w.cell? ⟨bc, 0, none⟩ = some (.int .i64 x)) (c1 : w.cell? ⟨bc, 1, none⟩ = some (.int .i64 y)) (c2 : w.cell? ⟨bc, 2, none⟩ = some (.int .i64 z)) (f0 : w.cell? ⟨bf, 0, none⟩ = some (.func (.func 62) #[] caps))
    (hX : ∀ w', Gr w w' → Calls Tryd.prog 62 (#[.func (.func 119) #[] #[]] ++ caps) w' fun e w'' => e = .returned (.int .i64 X) ∧ Gr w' w'') :
    Calls Tryd.prog 94 #[.func (.func 119) #[] #[], .pointer (some ⟨bc, 0, none⟩), .pointer (some ⟨bf, 0, none⟩)] w fun e w' => e = .returned (.int .i64 (g1 x X)) ∧ Gr w w' := by
  have HR := Lib.hid (fun w => red_any x y z w)
  have HX := Lib.hid hX
  have hmin := fun w ts t => run_mn2 ts t (X / x) 65535 w
  have mixed : Tryd.prog.follows .mixedOrders = true := by kernel_rfl
  clear hX
  by_cases hx : x = 0
  · have e : Hid (g1 x X = 65535) := by show _ = _; unfold g1; rw [if_pos hx]
    have t1 : (x == 0) = true := by simpa using hx
    clear hx
    go_enter Tryd.func94, Tryd.ntmps94
    go_wp2_with (go_at_call 119; refine (HR.out _).mono ?_; rintro e' w1 ⟨rfl, g1⟩)
    go_returns
    exact ⟨ret_int e.out.symm, g1⟩
  · have e : Hid (g1 x X = min (X / x) 65535) := by show _ = _; unfold g1; rw [if_neg hx]
    have t1 : (x == 0) = false := by simpa using hx
    have x1 : 1 ≤ x := by omega
    have hq : IntKind.i64.wrap (X.tdiv x) = X / x := IntWalk.i64_quo _ _ (by omega)
    go_enter Tryd.func94, Tryd.ntmps94
    go_wp2_with fail
    refine (HR.out _).mono ?_
    rintro e' w1 ⟨rfl, g1⟩
    have k0 := cell_grown (World.block_lt_of_cell? _ _ (g1.cell c0)) (g1.cell c0)
    have k1 := cell_grown (World.block_lt_of_cell? _ _ (g1.cell c1)) (g1.cell c1)
    have k2 := cell_grown (World.block_lt_of_cell? _ _ (g1.cell c2)) (g1.cell c2)
    have l0 := cell_grown (World.block_lt_of_cell? _ _ (g1.cell f0)) (g1.cell f0)
    clear c0 c1 c2 f0
    go_wp2_with fail
    go_quiet_grown (first | (go_at_call 119; exact grown_of (HR.out _)) | (go_at_call 62; exact grown_of (HX.out _ (g1.trans (((Gr.refl w1).drewN _).grown _)))))
    go_wp2
    go_returns
    exact ⟨ret_int e.out.symm, g1.trans (((Gr.refl w1).drewN _).grown _)⟩

set_option maxRecDepth 100000 in
set_option maxHeartbeats 3200000 in
theorem left_green (b off cap bl offl capl bc bs bv : Nat) (cr cg cb : Int) (L : List Em) (ls : Nat → Int) (w : World) (h0 : 0 < L.length) (h12 : L.length ≤ 12) (hL : EmsAt w b off L) (hv : EmsLv L)
    (hl : ∀ i, i < L.length → w.cell? ⟨bl, offl + i, none⟩ = some (.int .i64 (ls i))) (hlv : ∀ i, i < L.length → 0 ≤ ls i ∧ ls i ≤ 65535)
    (c0 : w.cell? ⟨bc, 0, none⟩ = some (.int .i64 cr)) (c1 : w.cell? ⟨bc, 1, none⟩ = some (.int .i64 cg)) (c2 : w.cell? ⟨bc, 2, none⟩ = some (.int .i64 cb)) (hc : 0 ≤ cg ∧ cg ≤ 65535)
    (d0 : w.cell? ⟨bs, 0, none⟩ = some (.slice (some ⟨b, off, none⟩) L.length cap)) (e0 : w.cell? ⟨bv, 0, none⟩ = some (.slice (some ⟨bl, offl, none⟩) L.length capl)) :
    Calls Tryd.prog 62 #[.func (.func 120) #[] #[], .pointer (some ⟨bc, 0, none⟩), .pointer (some ⟨bs, 0, none⟩), .pointer (some ⟨bv, 0, none⟩)] w fun e w' => e = .returned (.int .i64 (65535 * cg - sumN (fun i => emC Em.g L i * ls i) L.length)) ∧ Gr w w' := by
  have HR := Lib.hid (fun w => green_any cr cg cb w)
  have HS := Lib.hid (fun w' (g : Gr w w') => sum_green b off cap bl offl capl L ls w' h0 h12 (hL.gr g) hv (fun i hi => g.cell (hl i hi)) hlv)
  have hb := sumN_bd L.length (a := fun i => emC Em.g L i * ls i) (fun i hi => by
    rw [emC_at _ _ _ hi]
    exact lev_mul (hv L[i] (List.getElem_mem hi)).2.1 (hlv i hi))
  have k0 := cell_grown (World.block_lt_of_cell? _ _ c0) c0
  have k1 := cell_grown (World.block_lt_of_cell? _ _ c1) c1
  have k2 := cell_grown (World.block_lt_of_cell? _ _ c2) c2
  have l0 := cell_grown (World.block_lt_of_cell? _ _ d0) d0
  have m0 := cell_grown (World.block_lt_of_cell? _ _ e0) e0
  have mixed : Tryd.prog.follows .mixedOrders = true := by kernel_rfl
  clear hL hv hl hlv c0 c1 c2 d0 e0
  generalize sumN (fun i => emC Em.g L i * ls i) L.length = S at *
  obtain ⟨hb0, hb1⟩ := hb
  have hb2 : S ≤ 51538034700 := by omega
  have w0 : IntKind.i64.wrap (65535 * cg) = 65535 * cg := IntWalk.i64_in _ (by omega)
  have w1 : IntKind.i64.wrap (65535 * cg - S) = 65535 * cg - S := IntWalk.i64_in _ (by omega)
  clear hb1
  go_enter Tryd.func62, Tryd.ntmps62
  go_wp2_with fail
  go_quiet_grown (first | (go_at_call 120; exact grown_of (HR.out _)) | (go_at_call 63; exact grown_of (HS.out _ (((Gr.refl w).drewN _).grown _))))
  go_wp2
  go_returns
  exact ⟨rfl, ((Gr.refl w).drewN _).grown _⟩

set_option maxRecDepth 100000 in
set_option maxHeartbeats 3200000 in
theorem great_green (x y z X : Int) (caps : Array Value) (bc bf : Nat) (w : World) (x0 : 0 ≤ y) (X0 : 0 ≤ X) (X1 : X ≤ 4294836225)
    (c0 : w.cell? ⟨bc, 0, none⟩ = some (.int .i64 x)) (c1 : w.cell? ⟨bc, 1, none⟩ = some (.int .i64 y)) (c2 : w.cell? ⟨bc, 2, none⟩ = some (.int .i64 z)) (f0 : w.cell? ⟨bf, 0, none⟩ = some (.func (.func 62) #[] caps))
    (hX : ∀ w', Gr w w' → Calls Tryd.prog 62 (#[.func (.func 120) #[] #[]] ++ caps) w' fun e w'' => e = .returned (.int .i64 X) ∧ Gr w' w'') :
    Calls Tryd.prog 94 #[.func (.func 120) #[] #[], .pointer (some ⟨bc, 0, none⟩), .pointer (some ⟨bf, 0, none⟩)] w fun e w' => e = .returned (.int .i64 (g1 y X)) ∧ Gr w w' := by
  have HR := Lib.hid (fun w => green_any x y z w)
  have HX := Lib.hid hX
  have hmin := fun w ts t => run_mn2 ts t (X / y) 65535 w
  have mixed : Tryd.prog.follows .mixedOrders = true := by kernel_rfl
  clear hX
  by_cases hx : y = 0
  · have e : Hid (g1 y X = 65535) := by show _ = _; unfold g1; rw [if_pos hx]
    have t1 : (y == 0) = true := by simpa using hx
    clear hx
    go_enter Tryd.func94, Tryd.ntmps94
    go_wp2_with (go_at_call 120; refine (HR.out _).mono ?_; rintro e' w1 ⟨rfl, g1⟩)
    go_returns
    exact ⟨ret_int e.out.symm, g1⟩
  · have e : Hid (g1 y X = min (X / y) 65535) := by show _ = _; unfold g1; rw [if_neg hx]
    have t1 : (y == 0) = false := by simpa using hx
    have x1 : 1 ≤ y := by omega
    have hq : IntKind.i64.wrap (X.tdiv y) = X / y := IntWalk.i64_quo _ _ (by omega)
    go_enter Tryd.func94, Tryd.ntmps94
    go_wp2_with fail
    refine (HR.out _).mono ?_
    rintro e' w1 ⟨rfl, g1⟩
    have k0 := cell_grown (World.block_lt_of_cell? _ _ (g1.cell c0)) (g1.cell c0)
    have k1 := cell_grown (World.block_lt_of_cell? _ _ (g1.cell c1)) (g1.cell c1)
    have k2 := cell_grown (World.block_lt_of_cell? _ _ (g1.cell c2)) (g1.cell c2)
    have l0 := cell_grown (World.block_lt_of_cell? _ _ (g1.cell f0)) (g1.cell f0)
    clear c0 c1 c2 f0
    go_wp2_with fail
    go_quiet_grown (first | (go_at_call 120; exact grown_of (HR.out _)) | (go_at_call 62; exact grown_of (HX.out _ (g1.trans (((Gr.refl w1).drewN _).grown _)))))
    go_wp2
    go_returns
    exact ⟨ret_int e.out.symm, g1.trans (((Gr.refl w1).drewN _).grown _)⟩

set_option maxRecDepth 100000 in
set_option maxHeartbeats 3200000 in
theorem left_blue (b off cap bl offl capl bc bs bv : Nat) (cr cg cb : Int) (L : List Em) (ls : Nat → Int) (w : World) (h0 : 0 < L.length) (h12 : L.length ≤ 12) (hL : EmsAt w b off L) (hv : EmsLv L)
    (hl : ∀ i, i < L.length → w.cell? ⟨bl, offl + i, none⟩ = some (.int .i64 (ls i))) (hlv : ∀ i, i < L.length → 0 ≤ ls i ∧ ls i ≤ 65535)
    (c0 : w.cell? ⟨bc, 0, none⟩ = some (.int .i64 cr)) (c1 : w.cell? ⟨bc, 1, none⟩ = some (.int .i64 cg)) (c2 : w.cell? ⟨bc, 2, none⟩ = some (.int .i64 cb)) (hc : 0 ≤ cb ∧ cb ≤ 65535)
    (d0 : w.cell? ⟨bs, 0, none⟩ = some (.slice (some ⟨b, off, none⟩) L.length cap)) (e0 : w.cell? ⟨bv, 0, none⟩ = some (.slice (some ⟨bl, offl, none⟩) L.length capl)) :
    Calls Tryd.prog 62 #[.func (.func 121) #[] #[], .pointer (some ⟨bc, 0, none⟩), .pointer (some ⟨bs, 0, none⟩), .pointer (some ⟨bv, 0, none⟩)] w fun e w' => e = .returned (.int .i64 (65535 * cb - sumN (fun i => emC Em.b L i * ls i) L.length)) ∧ Gr w w' := by
  have HR := Lib.hid (fun w => blue_any cr cg cb w)
  have HS := Lib.hid (fun w' (g : Gr w w') => sum_blue b off cap bl offl capl L ls w' h0 h12 (hL.gr g) hv (fun i hi => g.cell (hl i hi)) hlv)
  have hb := sumN_bd L.length (a := fun i => emC Em.b L i * ls i) (fun i hi => by
    rw [emC_at _ _ _ hi]
    exact lev_mul (hv L[i] (List.getElem_mem hi)).2.2 (hlv i hi))
  have k0 := cell_grown (World.block_lt_of_cell? _ _ c0) c0
  have k1 := cell_grown (World.block_lt_of_cell? _ _ c1) c1
  have k2 := cell_grown (World.block_lt_of_cell? _ _ c2) c2
  have l0 := cell_grown (World.block_lt_of_cell? _ _ d0) d0
  have m0 := cell_grown (World.block_lt_of_cell? _ _ e0) e0
  have mixed : Tryd.prog.follows .mixedOrders = true := by kernel_rfl
  clear hL hv hl hlv c0 c1 c2 d0 e0
  generalize sumN (fun i => emC Em.b L i * ls i) L.length = S at *
  obtain ⟨hb0, hb1⟩ := hb
  have hb2 : S ≤ 51538034700 := by omega
  have w0 : IntKind.i64.wrap (65535 * cb) = 65535 * cb := IntWalk.i64_in _ (by omega)
  have w1 : IntKind.i64.wrap (65535 * cb - S) = 65535 * cb - S := IntWalk.i64_in _ (by omega)
  clear hb1
  go_enter Tryd.func62, Tryd.ntmps62
  go_wp2_with fail
  go_quiet_grown (first | (go_at_call 121; exact grown_of (HR.out _)) | (go_at_call 63; exact grown_of (HS.out _ (((Gr.refl w).drewN _).grown _))))
  go_wp2
  go_returns
  exact ⟨rfl, ((Gr.refl w).drewN _).grown _⟩

set_option maxRecDepth 100000 in
set_option maxHeartbeats 3200000 in
theorem great_blue (x y z X : Int) (caps : Array Value) (bc bf : Nat) (w : World) (x0 : 0 ≤ z) (X0 : 0 ≤ X) (X1 : X ≤ 4294836225)
    (c0 : w.cell? ⟨bc, 0, none⟩ = some (.int .i64 x)) (c1 : w.cell? ⟨bc, 1, none⟩ = some (.int .i64 y)) (c2 : w.cell? ⟨bc, 2, none⟩ = some (.int .i64 z)) (f0 : w.cell? ⟨bf, 0, none⟩ = some (.func (.func 62) #[] caps))
    (hX : ∀ w', Gr w w' → Calls Tryd.prog 62 (#[.func (.func 121) #[] #[]] ++ caps) w' fun e w'' => e = .returned (.int .i64 X) ∧ Gr w' w'') :
    Calls Tryd.prog 94 #[.func (.func 121) #[] #[], .pointer (some ⟨bc, 0, none⟩), .pointer (some ⟨bf, 0, none⟩)] w fun e w' => e = .returned (.int .i64 (g1 z X)) ∧ Gr w w' := by
  have HR := Lib.hid (fun w => blue_any x y z w)
  have HX := Lib.hid hX
  have hmin := fun w ts t => run_mn2 ts t (X / z) 65535 w
  have mixed : Tryd.prog.follows .mixedOrders = true := by kernel_rfl
  clear hX
  by_cases hx : z = 0
  · have e : Hid (g1 z X = 65535) := by show _ = _; unfold g1; rw [if_pos hx]
    have t1 : (z == 0) = true := by simpa using hx
    clear hx
    go_enter Tryd.func94, Tryd.ntmps94
    go_wp2_with (go_at_call 121; refine (HR.out _).mono ?_; rintro e' w1 ⟨rfl, g1⟩)
    go_returns
    exact ⟨ret_int e.out.symm, g1⟩
  · have e : Hid (g1 z X = min (X / z) 65535) := by show _ = _; unfold g1; rw [if_neg hx]
    have t1 : (z == 0) = false := by simpa using hx
    have x1 : 1 ≤ z := by omega
    have hq : IntKind.i64.wrap (X.tdiv z) = X / z := IntWalk.i64_quo _ _ (by omega)
    go_enter Tryd.func94, Tryd.ntmps94
    go_wp2_with fail
    refine (HR.out _).mono ?_
    rintro e' w1 ⟨rfl, g1⟩
    have k0 := cell_grown (World.block_lt_of_cell? _ _ (g1.cell c0)) (g1.cell c0)
    have k1 := cell_grown (World.block_lt_of_cell? _ _ (g1.cell c1)) (g1.cell c1)
    have k2 := cell_grown (World.block_lt_of_cell? _ _ (g1.cell c2)) (g1.cell c2)
    have l0 := cell_grown (World.block_lt_of_cell? _ _ (g1.cell f0)) (g1.cell f0)
    clear c0 c1 c2 f0
    go_wp2_with fail
    go_quiet_grown (first | (go_at_call 121; exact grown_of (HR.out _)) | (go_at_call 62; exact grown_of (HX.out _ (g1.trans (((Gr.refl w1).drewN _).grown _)))))
    go_wp2
    go_returns
    exact ⟨ret_int e.out.symm, g1.trans (((Gr.refl w1).drewN _).grown _)⟩

set_option maxRecDepth 100000 in
set_option maxHeartbeats 3200000 in
theorem greatest_any (e : Em) (X : Int × Int × Int) (caps : Array Value) (w : World) (hr : 0 ≤ e.r) (hg : 0 ≤ e.g) (hb : 0 ≤ e.b) (X0 : 0 ≤ X.1 ∧ X.1 ≤ 4294836225) (X1 : 0 ≤ X.2.1 ∧ X.2.1 ≤ 4294836225) (X2 : 0 ≤ X.2.2 ∧ X.2.2 ≤ 4294836225)
    (h1 : ∀ w', Gr w w' → Calls Tryd.prog 62 (#[.func (.func 119) #[] #[]] ++ caps) w' fun e w'' => e = .returned (.int .i64 X.1) ∧ Gr w' w'')
    (h2 : ∀ w', Gr w w' → Calls Tryd.prog 62 (#[.func (.func 120) #[] #[]] ++ caps) w' fun e w'' => e = .returned (.int .i64 X.2.1) ∧ Gr w' w'')
    (h3 : ∀ w', Gr w w' → Calls Tryd.prog 62 (#[.func (.func 121) #[] #[]] ++ caps) w' fun e w'' => e = .returned (.int .i64 X.2.2) ∧ Gr w' w'') :
    Calls Tryd.prog 64 #[.agg #[.int .i64 e.r, .int .i64 e.g, .int .i64 e.b], .func (.func 62) #[] caps] w fun e' w' => e' = .returned (.int .i64 (gLev e X)) ∧ Gr w w' := by
  have k0 : Gr w ((w.alloc (.cells #[.int .i64 e.r, .int .i64 e.g, .int .i64 e.b] 23)).alloc (.cells #[.func (.func 62) #[] caps] 98)) := ((Gr.refl w).alloc _).alloc _
  have c0 : ((w.alloc (.cells #[.int .i64 e.r, .int .i64 e.g, .int .i64 e.b] 23)).alloc (.cells #[.func (.func 62) #[] caps] 98)).cell? ⟨w.heap.size, 0, none⟩ = some (.int .i64 e.r) := by go_simp
  have c1 : ((w.alloc (.cells #[.int .i64 e.r, .int .i64 e.g, .int .i64 e.b] 23)).alloc (.cells #[.func (.func 62) #[] caps] 98)).cell? ⟨w.heap.size, 1, none⟩ = some (.int .i64 e.g) := by go_simp
  have c2 : ((w.alloc (.cells #[.int .i64 e.r, .int .i64 e.g, .int .i64 e.b] 23)).alloc (.cells #[.func (.func 62) #[] caps] 98)).cell? ⟨w.heap.size, 2, none⟩ = some (.int .i64 e.b) := by go_simp
  have f0 : ((w.alloc (.cells #[.int .i64 e.r, .int .i64 e.g, .int .i64 e.b] 23)).alloc (.cells #[.func (.func 62) #[] caps] 98)).cell? ⟨w.heap.size + 1, 0, none⟩ = some (.func (.func 62) #[] caps) := by go_simp
  have HB := Lib.hid (build_any 94 #[.pointer (some ⟨w.heap.size, 0, none⟩), .pointer (some ⟨w.heap.size + 1, 0, none⟩)] (g1 e.r X.1) (g1 e.g X.2.1) (g1 e.b X.2.2) _
    (enters_of Tryd.func94 (by kernel_rfl) rfl)
    (fun w1 m => great_red e.r e.g e.b X.1 caps _ _ w1 hr X0.1 X0.2 (m.cell c0) (m.cell c1) (m.cell c2) (m.cell f0) (fun w' m' => h1 w' (k0.trans (m.trans m'))))
    (fun w1 m => great_green e.r e.g e.b X.2.1 caps _ _ w1 hg X1.1 X1.2 (m.cell c0) (m.cell c1) (m.cell c2) (m.cell f0) (fun w' m' => h2 w' (k0.trans (m.trans m'))))
    (fun w1 m => great_blue e.r e.g e.b X.2.2 caps _ _ w1 hb X2.1 X2.2 (m.cell c0) (m.cell c1) (m.cell c2) (m.cell f0) (fun w' m' => h3 w' (k0.trans (m.trans m')))))
  have hm := fun w ts t => run_mn3 ts t (g1 e.r X.1) (g1 e.g X.2.1) (g1 e.b X.2.2) w
  have eg : Hid (gLev e X = mn3 (g1 e.r X.1) (g1 e.g X.2.1) (g1 e.b X.2.2)) := rfl
  clear h1 h2 h3 c0 c1 c2 f0
  generalize g1 e.r X.1 = A at *
  generalize g1 e.g X.2.1 = B at *
  generalize g1 e.b X.2.2 = C at *
  go_enter Tryd.func64, Tryd.ntmps64
  go_wp2_with (go_at_call 87; refine HB.out.mono ?_; rintro e' w1 ⟨rfl, k1⟩)
  go_returns
  exact ⟨ret_int eg.out.symm, (k0.trans k1).alloc _⟩
end Go.Proofs.YtdmpdcggepfaiaaDoor
