/- The text of a colour: Show of the program. -/
import Derived.Test.YtfamnaekelmkpaaGreatDoorHexF
import Derived.Test.YtfamnaekelmkpaaGreatDoorCol
import Derived.Test.YtfamnaekelmkpaaGreatDoorOwnG
import Derived.Deep.RegionHeld3
namespace Go.Proofs.YtfamnaekelmkpaaGreatDoor
open Go.RowKit Go.Lib Go.Sort

theorem bs_app (a b : List UInt8) : bs a ++ bs b = bs (a ++ b) := by
  apply Go.WideShapes.bytes_inj
  rw [bs_list]
  simp [bs]
theorem new1 {w W : World} {n : Nat} (u : Value) (t : TypeId) (hn : n = w.heap.size) (h : Bl (w.alloc (.cells #[u] t)) W) : W.cell? ⟨n, 0, none⟩ = some u := by
  subst hn
  exact h.cell (by rw [World.cell?_alloc_new]; rfl)
theorem new3 {w W : World} (a b c : Value) (t : TypeId) (h : Bl (w.alloc (.cells #[a, b, c] t)) W) : W.cell? ⟨w.heap.size, 0, none⟩ = some a ∧ W.cell? ⟨w.heap.size, 1, none⟩ = some b ∧ W.cell? ⟨w.heap.size, 2, none⟩ = some c :=
  ⟨h.cell (by rw [World.cell?_alloc_new]; rfl), h.cell (by rw [World.cell?_alloc_new]; rfl), h.cell (by rw [World.cell?_alloc_new]; rfl)⟩
theorem tail_bs (c : UInt8) (l : List UInt8) : (bs (c :: l)).extract 1 (bs (c :: l)).size = bs l := by
  apply Go.WideShapes.bytes_inj
  rw [Lib.extract_data, bs_list, bs_list, bs_size]
  simp
theorem slice_tail (c : UInt8) (l : List UInt8) (S T : ByteArray) (hS : S = bs (c :: l)) (hT : T = bs l) (w : World) :
    (Instr.slice 9 (.string S) (some (.int .i64 1)) none none).run Tryz.prog w = .ok (.string T) w := by
  subst hS hT
  rw [run_slice_string_from_if w 9 (bs (c :: l)) .i64 1 Tryz.underlying9, if_pos ⟨by omega, by rw [bs_size]; simp; omega⟩]
  rw [show (1 : Int).toNat = 1 from rfl, tail_bs]
set_option maxRecDepth 100000 in
set_option maxHeartbeats 1600000 in
theorem text_short (n : Nat) (hn : n ≤ 65535) (a b : Nat) (w : World) (hd : DbAt w) (h1 : w.cell? ⟨a, 0, none⟩ = some (.int .i64 2)) (h2 : w.cell? ⟨b, 0, none⟩ = some (.int .i64 257)) :
    Calls Tryz.prog 29 #[.int .i64 n, .pointer (some ⟨a, 0, none⟩), .pointer (some ⟨b, 0, none⟩)] w fun e w' => e = .returned (.string (bs (hxs 2 (n / 257)))) ∧ Bl w w' := by
  have hb := Lib.hid (fun w' (m : Bl w w') => format16 (256 + n / 257) (by omega) w' (hd.bl m))
  have hl := hexOf_lead 2 (n / 257) (by omega)
  rw [show 16 ^ 2 = 256 from rfl] at hl
  rw [hl] at hb
  obtain ⟨q, hq⟩ : ∃ q : Int, q = ((256 + n / 257 : Nat) : Int) := ⟨_, rfl⟩
  have hq2 : 256 + (n : Int) / 257 = q := by omega
  rw [← hq] at hb
  have hq0 : 0 ≤ q := by omega
  have hq1 : q < 1000 := by omega
  have hs := fun w => slice_tail (hxd 1) (hxs 2 (n / 257)) _ _ rfl rfl w
  have n0 : 0 ≤ (n : Int) := by omega
  have n1 : (n : Int) ≤ 65535 := by omega
  generalize bs (hxd 1 :: hxs 2 (n / 257)) = S at *
  generalize bs (hxs 2 (n / 257)) = T at *
  clear hd hl hq hn
  generalize (n : Int) = n at *
  go_enter Tryz.func29, Tryz.ntmps29
  go_wp2
  have c1 := h1
  have c2 := h2
  have hw8 : IntKind.i64.wrap 8 = 8 := by decide
  have hwe : IntKind.i64.wrap 256 = 256 := by decide
  have hsh : ∀ W, (Op.shift BinOp.shl IntKind.i64 1 IntKind.i64 8).run Tryz.prog W = .ok (.int .i64 256) W := fun W => by simp [Op.shift, go_sem]; decide
  have hqo := IntWalk.i64_quo n 257 (by omega)
  have hwq : IntKind.i64.wrap q = q := IntWalk.i64_in _ (by omega)
  go_region_held3 (fun w' => w'.cell? ⟨a, 0, none⟩ = some (.int .i64 2) ∧ w'.cell? ⟨b, 0, none⟩ = some (.int .i64 257))
    (refine ⟨Bl.cell (w := w) ?_ c1, Bl.cell (w := w) ?_ c2⟩ <;> ((repeat (first | with_reducible exact Bl.refl _ | with_reducible assumption | with_reducible refine Bl.drew ?_ | with_reducible refine Bl.alloc ?_ _ | with_reducible refine Bl.trans ?_ (by assumption))); done))
    (first | (go_at_call 30; (with_reducible refine (hb.out _ ?_).mono ?_); (focus ((repeat (first | with_reducible exact Bl.refl _ | with_reducible assumption | with_reducible refine Bl.drew ?_ | with_reducible refine Bl.alloc ?_ _ | with_reducible refine Bl.trans ?_ (by assumption))); done)); rintro e w1 ⟨rfl, m1⟩))
  go_wp2
  go_returns
  exact ⟨rfl, by ((repeat (first | with_reducible exact Bl.refl _ | with_reducible assumption | with_reducible refine Bl.drew ?_ | with_reducible refine Bl.alloc ?_ _ | with_reducible refine Bl.trans ?_ (by assumption))); done)⟩
set_option maxRecDepth 100000 in
set_option maxHeartbeats 1600000 in
theorem text_long (n : Nat) (hn : n ≤ 65535) (a b : Nat) (w : World) (hd : DbAt w) (h1 : w.cell? ⟨a, 0, none⟩ = some (.int .i64 4)) (h2 : w.cell? ⟨b, 0, none⟩ = some (.int .i64 1)) :
    Calls Tryz.prog 29 #[.int .i64 n, .pointer (some ⟨a, 0, none⟩), .pointer (some ⟨b, 0, none⟩)] w fun e w' => e = .returned (.string (bs (hxs 4 n))) ∧ Bl w w' := by
  have hb := Lib.hid (fun w' (m : Bl w w') => format16 (65536 + n) (by omega) w' (hd.bl m))
  have hl := hexOf_lead 4 n (by omega)
  rw [show 16 ^ 4 = 65536 from rfl] at hl
  rw [hl] at hb
  obtain ⟨q, hq⟩ : ∃ q : Int, q = ((65536 + n : Nat) : Int) := ⟨_, rfl⟩
  have hq2 : 65536 + (n : Int) = q := by omega
  rw [← hq] at hb
  have hq0 : 0 ≤ q := by omega
  have hq1 : q < 1000000 := by omega
  have hs := fun w => slice_tail (hxd 1) (hxs 4 n) _ _ rfl rfl w
  have n0 : 0 ≤ (n : Int) := by omega
  have n1 : (n : Int) ≤ 65535 := by omega
  generalize bs (hxd 1 :: hxs 4 n) = S at *
  generalize bs (hxs 4 n) = T at *
  clear hd hl hq hn
  generalize (n : Int) = n at *
  go_enter Tryz.func29, Tryz.ntmps29
  go_wp2
  have c1 := h1
  have c2 := h2
  have hw8 : IntKind.i64.wrap 16 = 16 := by decide
  have hwe : IntKind.i64.wrap 65536 = 65536 := by decide
  have hwn : IntKind.i64.wrap n = n := IntWalk.i64_in _ (by omega)
  have hsh : ∀ W, (Op.shift BinOp.shl IntKind.i64 1 IntKind.i64 16).run Tryz.prog W = .ok (.int .i64 65536) W := fun W => by simp [Op.shift, go_sem]; decide
  have hqo : IntKind.i64.wrap (n.tdiv 1) = n := (IntWalk.i64_quo n 1 (by omega)).trans (Int.ediv_one n)
  have hwq : IntKind.i64.wrap q = q := IntWalk.i64_in _ (by omega)
  go_region_held3 (fun w' => w'.cell? ⟨a, 0, none⟩ = some (.int .i64 4) ∧ w'.cell? ⟨b, 0, none⟩ = some (.int .i64 1))
    (refine ⟨Bl.cell (w := w) ?_ c1, Bl.cell (w := w) ?_ c2⟩ <;> ((repeat (first | with_reducible exact Bl.refl _ | with_reducible assumption | with_reducible refine Bl.drew ?_ | with_reducible refine Bl.alloc ?_ _ | with_reducible refine Bl.trans ?_ (by assumption))); done))
    (first | (go_at_call 30; (with_reducible refine (hb.out _ ?_).mono ?_); (focus ((repeat (first | with_reducible exact Bl.refl _ | with_reducible assumption | with_reducible refine Bl.drew ?_ | with_reducible refine Bl.alloc ?_ _ | with_reducible refine Bl.trans ?_ (by assumption))); done)); rintro e w1 ⟨rfl, m1⟩))
  go_wp2
  go_returns
  exact ⟨rfl, by ((repeat (first | with_reducible exact Bl.refl _ | with_reducible assumption | with_reducible refine Bl.drew ?_ | with_reducible refine Bl.alloc ?_ _ | with_reducible refine Bl.trans ?_ (by assumption))); done)⟩

set_option maxRecDepth 100000 in
set_option maxHeartbeats 3200000 in
theorem show_short (r g b : Nat) (hr : r ≤ 65535) (hg : g ≤ 65535) (hb : b ≤ 65535) (z : r % 257 = 0 ∧ g % 257 = 0 ∧ b % 257 = 0) (w : World) (hd : DbAt w) :
    Calls Tryz.prog 13 #[.agg #[.int .i64 r, .int .i64 g, .int .i64 b]] w fun e w' => e = .returned (.string (bs (shC r g b))) ∧ Bl w w' := by
  have hs : shC r g b = 35 :: (hxs 2 (r / 257) ++ hxs 2 (g / 257) ++ hxs 2 (b / 257)) := by unfold shC; rw [if_pos z]
  have HR := Lib.hid (fun x y w' (m : Bl w w') c1 c2 => text_short r hr x y w' (hd.bl m) c1 c2)
  have HG := Lib.hid (fun x y w' (m : Bl w w') c1 c2 => text_short g hg x y w' (hd.bl m) c1 c2)
  have HB := Lib.hid (fun x y w' (m : Bl w w') c1 c2 => text_short b hb x y w' (hd.bl m) c1 c2)
  obtain ⟨A, hA⟩ : ∃ A, A = bs (hxs 2 (r / 257)) := ⟨_, rfl⟩
  obtain ⟨B, hB⟩ : ∃ B, B = bs (hxs 2 (g / 257)) := ⟨_, rfl⟩
  obtain ⟨C, hC⟩ : ∃ C, C = bs (hxs 2 (b / 257)) := ⟨_, rfl⟩
  have sA : A.size = 2 := by rw [hA, bs_size, hxs_len]
  have sB : B.size = 2 := by rw [hB, bs_size, hxs_len]
  have sC : C.size = 2 := by rw [hC, bs_size, hxs_len]
  have HT := Lib.hid (show ⟨#[35]⟩ ++ A ++ B ++ C = bs (shC r g b) by rw [hs, hA, hB, hC, show (⟨#[35]⟩ : ByteArray) = bs [35] from rfl, bs_app, bs_app, bs_app]; rfl)
  rw [← hA] at HR
  rw [← hB] at HG
  rw [← hC] at HB
  have R1 : ∀ w, (Op.stringOp .add ⟨#[35]⟩ A).run Tryz.prog w = .ok (.string (⟨#[35]⟩ ++ A)) w := fun w => run_string_add_sum w _ _ (by rw [sA]; decide)
  have R2 : ∀ w, (Op.stringOp .add (⟨#[35]⟩ ++ A) B).run Tryz.prog w = .ok (.string (⟨#[35]⟩ ++ A ++ B)) w := fun w => run_string_add_sum w _ _ (by rw [ByteArray.size_append, sA, sB]; decide)
  have R3 : ∀ w, (Op.stringOp .add (⟨#[35]⟩ ++ A ++ B) C).run Tryz.prog w = .ok (.string (⟨#[35]⟩ ++ A ++ B ++ C)) w := fun w => run_string_add_sum w _ _ (by rw [ByteArray.size_append, ByteArray.size_append, sA, sB, sC]; decide)
  have y1 : (r : Int) % 257 = 0 := by omega
  have y2 : (g : Int) % 257 = 0 := by omega
  have y3 : (b : Int) % 257 = 0 := by omega
  have r0 : 0 ≤ (r : Int) := by omega
  have g0 : 0 ≤ (g : Int) := by omega
  have b0 : 0 ≤ (b : Int) := by omega
  clear hs hd hA hB hC sA sB sC z hr hg hb
  generalize bs (shC r g b) = T at *
  generalize (r : Int) = r at *
  generalize (g : Int) = g at *
  generalize (b : Int) = b at *
  go_enter Tryz.func13, Tryz.ntmps13
  go_wp2
  obtain ⟨W0, hW0⟩ : ∃ W0, W0 = (((w.alloc (.cells #[.int .i64 r, .int .i64 g, .int .i64 b] 31)).alloc (.cells #[.int .i64 2] 3)).alloc (.cells #[.int .i64 257] 3)) := ⟨_, rfl⟩
  have bW : Bl w W0 := by rw [hW0]; exact (((Bl.refl w).alloc _).alloc _).alloc _
  obtain ⟨d0, d1, d2⟩ : W0.cell? ⟨w.heap.size, 0, none⟩ = some (.int .i64 r) ∧ W0.cell? ⟨w.heap.size, 1, none⟩ = some (.int .i64 g) ∧ W0.cell? ⟨w.heap.size, 2, none⟩ = some (.int .i64 b) := by rw [hW0]; exact new3 _ _ _ _ (((Bl.refl _).alloc _).alloc _)
  have d3 : W0.cell? ⟨w.heap.size + 1, 0, none⟩ = some (.int .i64 2) := by rw [hW0]; exact new1 _ _ (by simp) ((Bl.refl _).alloc _)
  have d4 : W0.cell? ⟨w.heap.size + 1 + 1, 0, none⟩ = some (.int .i64 257) := by rw [hW0]; exact new1 _ _ (by simp) (Bl.refl _)
  rw [← hW0]
  clear hW0
  have e0 := d0
  have e1 := d1
  have e2 := d2
  have e3 := d3
  have e4 := d4
  go_region_held3 (fun w' => w'.cell? ⟨w.heap.size, 0, none⟩ = some (.int .i64 r) ∧ w'.cell? ⟨w.heap.size, 1, none⟩ = some (.int .i64 g) ∧ w'.cell? ⟨w.heap.size, 2, none⟩ = some (.int .i64 b) ∧ w'.cell? ⟨w.heap.size + 1, 0, none⟩ = some (.int .i64 2) ∧ w'.cell? ⟨w.heap.size + 1 + 1, 0, none⟩ = some (.int .i64 257))
    (refine ⟨Bl.cell (w := W0) ?_ e0, Bl.cell (w := W0) ?_ e1, Bl.cell (w := W0) ?_ e2, Bl.cell (w := W0) ?_ e3, Bl.cell (w := W0) ?_ e4⟩ <;> ((repeat (first | with_reducible exact Bl.refl _ | with_reducible assumption | with_reducible refine Bl.drew ?_ | with_reducible refine Bl.alloc ?_ _ | with_reducible refine Bl.trans ?_ (by assumption))); done))
    (first
      | (go_at_call 29; (with_reducible refine (HR.out _ _ _ (bW.trans ?_) (Bl.cell (w := W0) ?_ e3) (Bl.cell (w := W0) ?_ e4)).mono ?_); (focus ((repeat (first | with_reducible exact Bl.refl _ | with_reducible assumption | with_reducible refine Bl.drew ?_ | with_reducible refine Bl.alloc ?_ _ | with_reducible refine Bl.trans ?_ (by assumption))); done)); (focus ((repeat (first | with_reducible exact Bl.refl _ | with_reducible assumption | with_reducible refine Bl.drew ?_ | with_reducible refine Bl.alloc ?_ _ | with_reducible refine Bl.trans ?_ (by assumption))); done)); (focus ((repeat (first | with_reducible exact Bl.refl _ | with_reducible assumption | with_reducible refine Bl.drew ?_ | with_reducible refine Bl.alloc ?_ _ | with_reducible refine Bl.trans ?_ (by assumption))); done)); rintro e' w6 ⟨rfl, m6⟩)
      | (go_at_call 29; (with_reducible refine (HG.out _ _ _ (bW.trans ?_) (Bl.cell (w := W0) ?_ e3) (Bl.cell (w := W0) ?_ e4)).mono ?_); (focus ((repeat (first | with_reducible exact Bl.refl _ | with_reducible assumption | with_reducible refine Bl.drew ?_ | with_reducible refine Bl.alloc ?_ _ | with_reducible refine Bl.trans ?_ (by assumption))); done)); (focus ((repeat (first | with_reducible exact Bl.refl _ | with_reducible assumption | with_reducible refine Bl.drew ?_ | with_reducible refine Bl.alloc ?_ _ | with_reducible refine Bl.trans ?_ (by assumption))); done)); (focus ((repeat (first | with_reducible exact Bl.refl _ | with_reducible assumption | with_reducible refine Bl.drew ?_ | with_reducible refine Bl.alloc ?_ _ | with_reducible refine Bl.trans ?_ (by assumption))); done)); rintro e' w7 ⟨rfl, m7⟩)
      | (go_at_call 29; (with_reducible refine (HB.out _ _ _ (bW.trans ?_) (Bl.cell (w := W0) ?_ e3) (Bl.cell (w := W0) ?_ e4)).mono ?_); (focus ((repeat (first | with_reducible exact Bl.refl _ | with_reducible assumption | with_reducible refine Bl.drew ?_ | with_reducible refine Bl.alloc ?_ _ | with_reducible refine Bl.trans ?_ (by assumption))); done)); (focus ((repeat (first | with_reducible exact Bl.refl _ | with_reducible assumption | with_reducible refine Bl.drew ?_ | with_reducible refine Bl.alloc ?_ _ | with_reducible refine Bl.trans ?_ (by assumption))); done)); (focus ((repeat (first | with_reducible exact Bl.refl _ | with_reducible assumption | with_reducible refine Bl.drew ?_ | with_reducible refine Bl.alloc ?_ _ | with_reducible refine Bl.trans ?_ (by assumption))); done)); rintro e' w8 ⟨rfl, m8⟩))
  go_wp2
  go_returns
  exact ⟨by rw [← HT.out]; rfl, bW.trans (by ((repeat (first | with_reducible exact Bl.refl _ | with_reducible assumption | with_reducible refine Bl.drew ?_ | with_reducible refine Bl.alloc ?_ _ | with_reducible refine Bl.trans ?_ (by assumption))); done))⟩
set_option maxRecDepth 100000 in
set_option maxHeartbeats 3200000 in
theorem show_long (r g b : Nat) (hr : r ≤ 65535) (hg : g ≤ 65535) (hb : b ≤ 65535) (z : ¬ (r % 257 = 0 ∧ g % 257 = 0 ∧ b % 257 = 0)) (w : World) (hd : DbAt w) :
    Calls Tryz.prog 13 #[.agg #[.int .i64 r, .int .i64 g, .int .i64 b]] w fun e w' => e = .returned (.string (bs (shC r g b))) ∧ Bl w w' := by
  have hs : shC r g b = 35 :: (hxs 4 r ++ hxs 4 g ++ hxs 4 b) := by unfold shC; rw [if_neg z]
  have HR := Lib.hid (fun x y w' (m : Bl w w') c1 c2 => text_long r hr x y w' (hd.bl m) c1 c2)
  have HG := Lib.hid (fun x y w' (m : Bl w w') c1 c2 => text_long g hg x y w' (hd.bl m) c1 c2)
  have HB := Lib.hid (fun x y w' (m : Bl w w') c1 c2 => text_long b hb x y w' (hd.bl m) c1 c2)
  obtain ⟨A, hA⟩ : ∃ A, A = bs (hxs 4 r) := ⟨_, rfl⟩
  obtain ⟨B, hB⟩ : ∃ B, B = bs (hxs 4 g) := ⟨_, rfl⟩
  obtain ⟨C, hC⟩ : ∃ C, C = bs (hxs 4 b) := ⟨_, rfl⟩
  have sA : A.size = 4 := by rw [hA, bs_size, hxs_len]
  have sB : B.size = 4 := by rw [hB, bs_size, hxs_len]
  have sC : C.size = 4 := by rw [hC, bs_size, hxs_len]
  have HT := Lib.hid (show ⟨#[35]⟩ ++ A ++ B ++ C = bs (shC r g b) by rw [hs, hA, hB, hC, show (⟨#[35]⟩ : ByteArray) = bs [35] from rfl, bs_app, bs_app, bs_app]; rfl)
  rw [← hA] at HR
  rw [← hB] at HG
  rw [← hC] at HB
  have R1 : ∀ w, (Op.stringOp .add ⟨#[35]⟩ A).run Tryz.prog w = .ok (.string (⟨#[35]⟩ ++ A)) w := fun w => run_string_add_sum w _ _ (by rw [sA]; decide)
  have R2 : ∀ w, (Op.stringOp .add (⟨#[35]⟩ ++ A) B).run Tryz.prog w = .ok (.string (⟨#[35]⟩ ++ A ++ B)) w := fun w => run_string_add_sum w _ _ (by rw [ByteArray.size_append, sA, sB]; decide)
  have R3 : ∀ w, (Op.stringOp .add (⟨#[35]⟩ ++ A ++ B) C).run Tryz.prog w = .ok (.string (⟨#[35]⟩ ++ A ++ B ++ C)) w := fun w => run_string_add_sum w _ _ (by rw [ByteArray.size_append, ByteArray.size_append, sA, sB, sC]; decide)
  have key : (r : Int) % 257 ≠ 0 ∨ (r : Int) % 257 = 0 ∧ (g : Int) % 257 ≠ 0 ∨ (r : Int) % 257 = 0 ∧ (g : Int) % 257 = 0 ∧ (b : Int) % 257 ≠ 0 := by omega
  have r0 : 0 ≤ (r : Int) := by omega
  have g0 : 0 ≤ (g : Int) := by omega
  have b0 : 0 ≤ (b : Int) := by omega
  clear hs hd hA hB hC sA sB sC z hr hg hb
  generalize bs (shC r g b) = T at *
  generalize (r : Int) = r at *
  generalize (g : Int) = g at *
  generalize (b : Int) = b at *
  rcases key with y1 | ⟨y1, y2⟩ | ⟨y1, y2, y3⟩
  all_goals (
    try (have z1 : ((r % 257 != 0) = true) := by simpa using y1)
    try (have z2 : ((g % 257 != 0) = true) := by simpa using y2)
    try (have z3 : ((b % 257 != 0) = true) := by simpa using y3)
    go_enter Tryz.func13, Tryz.ntmps13
    go_wp2
    obtain ⟨W0, hW0⟩ : ∃ W0, W0 = (((w.alloc (.cells #[.int .i64 r, .int .i64 g, .int .i64 b] 31)).alloc (.cells #[.int .i64 4] 3)).alloc (.cells #[.int .i64 1] 3)) := ⟨_, rfl⟩
    have bW : Bl w W0 := by rw [hW0]; exact (((Bl.refl w).alloc _).alloc _).alloc _
    obtain ⟨d0, d1, d2⟩ : W0.cell? ⟨w.heap.size, 0, none⟩ = some (.int .i64 r) ∧ W0.cell? ⟨w.heap.size, 1, none⟩ = some (.int .i64 g) ∧ W0.cell? ⟨w.heap.size, 2, none⟩ = some (.int .i64 b) := by rw [hW0]; exact new3 _ _ _ _ (((Bl.refl _).alloc _).alloc _)
    have d3 : W0.cell? ⟨w.heap.size + 1, 0, none⟩ = some (.int .i64 4) := by rw [hW0]; exact new1 _ _ (by simp) ((Bl.refl _).alloc _)
    have d4 : W0.cell? ⟨w.heap.size + 1 + 1, 0, none⟩ = some (.int .i64 1) := by rw [hW0]; exact new1 _ _ (by simp) (Bl.refl _)
    rw [← hW0]
    clear hW0
    have e0 := d0
    have e1 := d1
    have e2 := d2
    have e3 := d3
    have e4 := d4
    go_region_held3 (fun w' => w'.cell? ⟨w.heap.size, 0, none⟩ = some (.int .i64 r) ∧ w'.cell? ⟨w.heap.size, 1, none⟩ = some (.int .i64 g) ∧ w'.cell? ⟨w.heap.size, 2, none⟩ = some (.int .i64 b) ∧ w'.cell? ⟨w.heap.size + 1, 0, none⟩ = some (.int .i64 4) ∧ w'.cell? ⟨w.heap.size + 1 + 1, 0, none⟩ = some (.int .i64 1))
      (refine ⟨Bl.cell (w := W0) ?_ e0, Bl.cell (w := W0) ?_ e1, Bl.cell (w := W0) ?_ e2, Bl.cell (w := W0) ?_ e3, Bl.cell (w := W0) ?_ e4⟩ <;> ((repeat (first | with_reducible exact Bl.refl _ | with_reducible assumption | with_reducible refine Bl.drew ?_ | with_reducible refine Bl.alloc ?_ _ | with_reducible refine Bl.trans ?_ (by assumption))); done))
      (first
        | (go_at_call 29; (with_reducible refine (HR.out _ _ _ (bW.trans ?_) (Bl.cell (w := W0) ?_ e3) (Bl.cell (w := W0) ?_ e4)).mono ?_); (focus ((repeat (first | with_reducible exact Bl.refl _ | with_reducible assumption | with_reducible refine Bl.drew ?_ | with_reducible refine Bl.alloc ?_ _ | with_reducible refine Bl.trans ?_ (by assumption))); done)); (focus ((repeat (first | with_reducible exact Bl.refl _ | with_reducible assumption | with_reducible refine Bl.drew ?_ | with_reducible refine Bl.alloc ?_ _ | with_reducible refine Bl.trans ?_ (by assumption))); done)); (focus ((repeat (first | with_reducible exact Bl.refl _ | with_reducible assumption | with_reducible refine Bl.drew ?_ | with_reducible refine Bl.alloc ?_ _ | with_reducible refine Bl.trans ?_ (by assumption))); done)); rintro e' w6 ⟨rfl, m6⟩)
        | (go_at_call 29; (with_reducible refine (HG.out _ _ _ (bW.trans ?_) (Bl.cell (w := W0) ?_ e3) (Bl.cell (w := W0) ?_ e4)).mono ?_); (focus ((repeat (first | with_reducible exact Bl.refl _ | with_reducible assumption | with_reducible refine Bl.drew ?_ | with_reducible refine Bl.alloc ?_ _ | with_reducible refine Bl.trans ?_ (by assumption))); done)); (focus ((repeat (first | with_reducible exact Bl.refl _ | with_reducible assumption | with_reducible refine Bl.drew ?_ | with_reducible refine Bl.alloc ?_ _ | with_reducible refine Bl.trans ?_ (by assumption))); done)); (focus ((repeat (first | with_reducible exact Bl.refl _ | with_reducible assumption | with_reducible refine Bl.drew ?_ | with_reducible refine Bl.alloc ?_ _ | with_reducible refine Bl.trans ?_ (by assumption))); done)); rintro e' w7 ⟨rfl, m7⟩)
        | (go_at_call 29; (with_reducible refine (HB.out _ _ _ (bW.trans ?_) (Bl.cell (w := W0) ?_ e3) (Bl.cell (w := W0) ?_ e4)).mono ?_); (focus ((repeat (first | with_reducible exact Bl.refl _ | with_reducible assumption | with_reducible refine Bl.drew ?_ | with_reducible refine Bl.alloc ?_ _ | with_reducible refine Bl.trans ?_ (by assumption))); done)); (focus ((repeat (first | with_reducible exact Bl.refl _ | with_reducible assumption | with_reducible refine Bl.drew ?_ | with_reducible refine Bl.alloc ?_ _ | with_reducible refine Bl.trans ?_ (by assumption))); done)); (focus ((repeat (first | with_reducible exact Bl.refl _ | with_reducible assumption | with_reducible refine Bl.drew ?_ | with_reducible refine Bl.alloc ?_ _ | with_reducible refine Bl.trans ?_ (by assumption))); done)); rintro e' w8 ⟨rfl, m8⟩))
    go_wp2
    go_returns
    exact ⟨by rw [← HT.out]; rfl, bW.trans (by ((repeat (first | with_reducible exact Bl.refl _ | with_reducible assumption | with_reducible refine Bl.drew ?_ | with_reducible refine Bl.alloc ?_ _ | with_reducible refine Bl.trans ?_ (by assumption))); done))⟩)

/-- What Show says. -/
def shT (r g b : Int) : List UInt8 := if isCol r g b = true then shC r.toNat g.toNat b.toNat else []
theorem show_is (r g b : Int) (h : isCol r g b = true) (w : World) (hd : DbAt w) :
    Calls Tryz.prog 13 #[.agg #[.int .i64 r, .int .i64 g, .int .i64 b]] w fun e w' => e = .returned (.string (bs (shC r.toNat g.toNat b.toNat))) ∧ Bl w w' := by
  obtain ⟨hr, hg, hb⟩ := isCol_iff.1 h
  have er : ((r.toNat : Nat) : Int) = r := by omega
  have eg : ((g.toNat : Nat) : Int) = g := by omega
  have eb : ((b.toNat : Nat) : Int) = b := by omega
  have h1 : r.toNat ≤ 65535 := by omega
  have h2 : g.toNat ≤ 65535 := by omega
  have h3 : b.toNat ≤ 65535 := by omega
  by_cases z : r.toNat % 257 = 0 ∧ g.toNat % 257 = 0 ∧ b.toNat % 257 = 0
  · have := show_short r.toNat g.toNat b.toNat h1 h2 h3 z w hd
    rwa [er, eg, eb] at this
  · have := show_long r.toNat g.toNat b.toNat h1 h2 h3 z w hd
    rwa [er, eg, eb] at this
end Go.Proofs.YtfamnaekelmkpaaGreatDoor
