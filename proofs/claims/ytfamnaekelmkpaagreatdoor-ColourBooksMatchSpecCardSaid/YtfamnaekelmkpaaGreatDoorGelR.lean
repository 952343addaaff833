/- readGel of the program. -/
import Derived.Test.YtfamnaekelmkpaaGreatDoorRestL
import Derived.Deep.RegionWith
namespace Go.Proofs.YtfamnaekelmkpaaGreatDoor
open Go.RowKit Go.Lib Go.Sort

def gelV (e : Gel) : Value := .agg #[.int .i64 e.n, .string e.name, .int .i64 e.r, .int .i64 e.g, .int .i64 e.b]
theorem jn_tail (b : List UInt8) (t : List (List UInt8)) : jn (b :: t) = b ++ t.flatMap fun x => 32 :: x := by
  unfold jn
  rw [Lib.join_cons]
  unfold Lib.joinTail
  rw [List.flatMap_def]
  rfl
theorem jn_le (t : List (List UInt8)) : (jn t).length ≤ (t.flatMap fun x => (32 : UInt8) :: x).length := by
  cases t with
  | nil => exact Nat.le_refl _
  | cons x t => rw [jn_tail, List.flatMap_cons, List.length_append, List.length_append, List.length_cons]; omega
/-- A line that is cut into three. -/
theorem split_sizes {l a b : List UInt8} {t : List (List UInt8)} (h : split1 32 l = a :: b :: t) : a.length ≤ l.length ∧ b.length ≤ l.length ∧ (jn t).length ≤ l.length := by
  have := congrArg List.length (join_split h)
  unfold joinW at this
  rw [List.length_append, List.flatMap_cons, List.length_append, List.length_cons] at this
  have h2 := jn_le t
  omega
theorem ev_ne {w : World} (h : EvAt w) {n : Nat} (hn : w.heap.size ≤ n) : 4 ≠ n := by
  obtain ⟨ev, h1, _⟩ := h
  have := World.block_lt_of_cell? _ _ h1
  show (⟨4, 0, none⟩ : Addr).block ≠ n
  omega
theorem EvAt.grown {w w' : World} {n : Nat} (h : EvAt w) (g : w.grownBy w' (some n)) (hE : 4 ≠ n) : EvAt w' := by obtain ⟨ev, h1, h2⟩ := h; exact ⟨ev, grown_cell g hE h1, h2⟩
set_option maxRecDepth 100000 in
theorem ended_yes (n : Nat) (o : Option Addr) (cap : Nat) (w : World) (h1 : w.cell? ⟨n, 1, none⟩ = some (.bool false)) (h0 : w.cell? ⟨n, 0, none⟩ = some (.slice o 0 cap)) :
    Calls Tryz.prog 41 #[.pointer (some ⟨n, 0, none⟩)] w fun e w' => e = .returned (.bool true) ∧ w' = w := by
  go_enter Tryz.func41, Tryz.ntmps41
  go_wp2
  go_ret
  exact ⟨rfl, rfl⟩
theorem ended_no (n : Nat) (w : World) (h1 : w.cell? ⟨n, 1, none⟩ = some (.bool true)) :
    Calls Tryz.prog 41 #[.pointer (some ⟨n, 0, none⟩)] w fun e w' => e = .returned (.bool false) ∧ w' = w := by
  go_enter Tryz.func41, Tryz.ntmps41
  go_wp2
  go_ret
  exact ⟨rfl, rfl⟩
/-- The five cells of a gel that a call is to give back, set. -/
def set5 (W : World) (N : Nat) (e : Gel) : World := ((((W.setCell ⟨N, 0, none⟩ (.int .i64 e.n)).setCell ⟨N, 1, none⟩ (.string e.name)).setCell ⟨N, 2, none⟩ (.int .i64 e.r)).setCell ⟨N, 3, none⟩ (.int .i64 e.g)).setCell ⟨N, 4, none⟩ (.int .i64 e.b)
theorem st5 {W : World} {N : Nat} {e : Gel} {c0 c1 c2 c3 c4 : Value} (q0 : W.cell? ⟨N, 0, none⟩ = some c0) (q1 : W.cell? ⟨N, 1, none⟩ = some c1) (q2 : W.cell? ⟨N, 2, none⟩ = some c2) (q3 : W.cell? ⟨N, 3, none⟩ = some c3) (q4 : W.cell? ⟨N, 4, none⟩ = some c4) :
    (set5 W N e).cell? ⟨N, 0, none⟩ = some (.int .i64 e.n) ∧ (set5 W N e).cell? ⟨N, 1, none⟩ = some (.string e.name) ∧ (set5 W N e).cell? ⟨N, 2, none⟩ = some (.int .i64 e.r) ∧ (set5 W N e).cell? ⟨N, 3, none⟩ = some (.int .i64 e.g) ∧ (set5 W N e).cell? ⟨N, 4, none⟩ = some (.int .i64 e.b) := by
  have o : ∀ (W : World) (i j : Nat) (u : Value), i ≠ j → (W.setCell ⟨N, i, none⟩ u).cell? ⟨N, j, none⟩ = W.cell? ⟨N, j, none⟩ := fun W i j u h => World.cell?_setCell_other _ _ _ _ (by intro he; injection he with _ h2; exact h h2)
  unfold set5
  refine ⟨?_, ?_, ?_, ?_, ?_⟩
  · rw [o _ _ _ _ (by decide), o _ _ _ _ (by decide), o _ _ _ _ (by decide), o _ _ _ _ (by decide)]; exact World.cell?_setCell_same _ _ _ q0
  · rw [o _ _ _ _ (by decide), o _ _ _ _ (by decide), o _ _ _ _ (by decide)]; exact World.cell?_setCell_same (u := c1) _ _ _ (by rw [o _ _ _ _ (by decide)]; exact q1)
  · rw [o _ _ _ _ (by decide), o _ _ _ _ (by decide)]; exact World.cell?_setCell_same (u := c2) _ _ _ (by rw [o _ _ _ _ (by decide), o _ _ _ _ (by decide)]; exact q2)
  · rw [o _ _ _ _ (by decide)]; exact World.cell?_setCell_same (u := c3) _ _ _ (by rw [o _ _ _ _ (by decide), o _ _ _ _ (by decide), o _ _ _ _ (by decide)]; exact q3)
  · exact World.cell?_setCell_same (u := c4) _ _ _ (by rw [o _ _ _ _ (by decide), o _ _ _ _ (by decide), o _ _ _ _ (by decide), o _ _ _ _ (by decide)]; exact q4)
theorem set5_bl {w W : World} {N : Nat} {e : Gel} (h : Bl w W) (hN : w.heap.size ≤ N) : Bl w (set5 W N e) := ((((h.setCell (p := ⟨N, 0, none⟩) hN _).setCell (p := ⟨N, 1, none⟩) hN _).setCell (p := ⟨N, 2, none⟩) hN _).setCell (p := ⟨N, 3, none⟩) hN _).setCell (p := ⟨N, 4, none⟩) hN _
theorem grown_new5 {w w' : World} {n : Nat} {c0 c1 c2 c3 c4 : Value} {t : TypeId} (g : (w.alloc (.cells #[c0, c1, c2, c3, c4] t)).grownBy w' (some n)) (hb : w.heap.size ≠ n) :
    w'.cell? ⟨w.heap.size, 0, none⟩ = some c0 ∧ w'.cell? ⟨w.heap.size, 1, none⟩ = some c1 ∧ w'.cell? ⟨w.heap.size, 2, none⟩ = some c2 ∧ w'.cell? ⟨w.heap.size, 3, none⟩ = some c3 ∧ w'.cell? ⟨w.heap.size, 4, none⟩ = some c4 ∧ w.heap.size < w'.heap.size := by
  refine ⟨grown_cell g hb (by simp), grown_cell g hb (by simp), grown_cell g hb (by simp), grown_cell g hb (by simp), grown_cell g hb (by simp), by have := g.size; simp at this; omega⟩
set_option maxRecDepth 100000 in
set_option maxHeartbeats 3200000 in
theorem readGel_ok (s : ByteArray) (a b : List UInt8) (t : List (List UInt8)) (w : World) (hs : s.size ≤ 1000000) (hm : MxAt w) (hev : EvAt w) (h : split1 32 s.data.toList = a :: b :: t) (ha : numOk 9 a = true) (hb : rdX b = 0) (ht : (jn t).isEmpty = false) :
    Calls Tryz.prog 24 #[.string s] w fun e w' => e = .returned (.tuple #[gelV ⟨val a, bs (jn t), (rdV b).1, (rdV b).2.1, (rdV b).2.2⟩, .bool true]) ∧ Bl w w' := by
  obtain ⟨W0, hW0⟩ : ∃ W0, W0 = w.alloc (.cells #[.int .i64 0, .string ⟨#[]⟩, .int .i64 0, .int .i64 0, .int .i64 0] 33) := ⟨_, rfl⟩
  have b0 : Bl w W0 := by rw [hW0]; exact (Bl.refl w).alloc _
  have z0 : w.heap.size < W0.heap.size := by rw [hW0]; simp
  have q0 : W0.cell? ⟨w.heap.size, 0, none⟩ = some (.int .i64 0) := by rw [hW0]; simp
  have q1 : W0.cell? ⟨w.heap.size, 1, none⟩ = some (.string ⟨#[]⟩) := by rw [hW0]; simp
  have q2 : W0.cell? ⟨w.heap.size, 2, none⟩ = some (.int .i64 0) := by rw [hW0]; simp
  have q3 : W0.cell? ⟨w.heap.size, 3, none⟩ = some (.int .i64 0) := by rw [hW0]; simp
  have q4 : W0.cell? ⟨w.heap.size, 4, none⟩ = some (.int .i64 0) := by rw [hW0]; simp
  have fz : ∀ i, W0.frozen? ⟨w.heap.size, i, none⟩ = false := fun i => by rw [hW0]; simp
  obtain ⟨l1, l2, l3⟩ := split_sizes h
  rw [← Lib.size_eq] at l1 l2 l3
  have HS := Lib.hid (split_line s W0 hs (hm.bl b0))
  rw [h] at HS
  have HN := Lib.hid (fun n w' (hL : LineV w' n (a :: b :: t) false) => number_ok n a (b :: t) w' hL (by omega) ha)
  have HT := Lib.hid (fun n w' (hL : LineV w' n (b :: t) false) hn hev hE => take_ok n b t w' hL hn hev hE hb)
  have HR := Lib.hid (fun n w' (hL : LineV w' n t false) => rest_any n t w' hL (by omega))
  rw [ht] at HR
  have hev0 := Lib.hid (hev.bl b0)
  clear h ha hb ht l1 l2 l3 hm hev hs
  obtain ⟨J, hJ⟩ : ∃ J, J = bs (jn t) := ⟨_, rfl⟩
  rw [← hJ] at HR ⊢
  clear hJ
  simp only [colV] at HT
  generalize val a = V at *
  generalize (rdV b).1 = r1 at *
  generalize (rdV b).2.1 = r2 at *
  generalize (rdV b).2.2 = r3 at *
  go_enter Tryz.func24, Tryz.ntmps24
  go_wp2_with fail
  rw [← hW0]
  clear hW0
  refine HS.out.mono ?_
  rintro e w1 ⟨n, rfl, hn1, hL1, hb1⟩
  have HL1 := Lib.hid hL1
  have hE : 4 ≠ n := ev_ne hev0.out hn1
  have hlt1 : n < w1.heap.size := World.block_lt_of_cell? _ _ hL1.1
  clear hL1
  go_wp2_with fail
  refine (HN.out n w1 HL1.out).mono ?_
  rintro e w2 ⟨rfl, hL2, hg2⟩
  have HL2 := Lib.hid hL2
  clear hL2
  go_wp2_with fail
  refine (HT.out n w2 HL2.out (Nat.lt_of_lt_of_le hlt1 hg2.size) ((hev0.out.bl hb1).grown hg2 hE) hE).mono ?_
  rintro e w3 ⟨rfl, hL3, hg3⟩
  have HL3 := Lib.hid hL3
  clear hL3
  go_wp2_with fail
  refine (HR.out n w3 HL3.out).mono ?_
  rintro e w4 ⟨rfl, hL4, hg4⟩
  have g4 := (bl_grown hb1 n).trans ((hg2.trans hg3).trans hg4)
  have HL4 := Lib.hid hL4
  clear hL4
  obtain ⟨W5, hW5⟩ : ∃ W5, W5 = w4.alloc (.cells #[.int .i64 V, .string J, .int .i64 r1, .int .i64 r2, .int .i64 r3] 33) := ⟨_, rfl⟩
  have b5 : Bl w4 W5 := by rw [hW5]; exact (Bl.refl w4).alloc _
  have hN : w.heap.size ≠ n := by omega
  have g5 := g4.trans (bl_grown b5 n)
  have p0 := grown_cell g5 hN q0
  have p1 := grown_cell g5 hN q1
  have p2 := grown_cell g5 hN q2
  have p3 := grown_cell g5 hN q3
  have p4 := grown_cell g5 hN q4
  have pz : ∀ i, W5.frozen? ⟨w.heap.size, i, none⟩ = false := fun i => (grown_frozen g5 hN z0).trans (fz i)
  have z5 : w.heap.size < W5.heap.size := Nat.lt_of_lt_of_le z0 g5.size
  obtain ⟨k1, _, _, v4, k0, o4, cap4, rfl, _⟩ := HL4.out.bl b5
  have x0 : W5.cell? ⟨w4.heap.size, 0, none⟩ = some (.int .i64 V) := by rw [hW5]; simp
  have x1 : W5.cell? ⟨w4.heap.size, 1, none⟩ = some (.string J) := by rw [hW5]; simp
  have x2 : W5.cell? ⟨w4.heap.size, 2, none⟩ = some (.int .i64 r1) := by rw [hW5]; simp
  have x3 : W5.cell? ⟨w4.heap.size, 3, none⟩ = some (.int .i64 r2) := by rw [hW5]; simp
  have x4 : W5.cell? ⟨w4.heap.size, 4, none⟩ = some (.int .i64 r3) := by rw [hW5]; simp
  have hM : w.heap.size ≠ w4.heap.size := by have := g4.size; omega
  have bW5 : Bl w W5 := grown_bl b0 g5 (by omega)
  have HY := Lib.hid (fun w' h1 h0 => ended_yes n o4 cap4 w' h1 h0)
  clear q0 q1 q2 q3 q4 fz HN HT HR HL1 HL2 HL3 HL4 hev0 HS g4 hg2 hg3 hg4 hb1
  have pz0 := pz 0
  have pz1 := pz 1
  have pz2 := pz 2
  have pz3 := pz 3
  have pz4 := pz 4
  clear pz
  go_wp2_with fail
  rw [← hW5]
  clear hW5
  go_region_with (
    go_at_call 41
    (with_reducible refine (HY.out _ ?_ ?_).mono ?_)
    · first | exact k1 | (simp [World.cell?_setCell_other, hN, Ne.symm hN, k1]; done)
    · first | exact k0 | (simp [World.cell?_setCell_other, hN, Ne.symm hN, k0]; done)
    rintro e w6 ⟨rfl, rfl⟩)
  all_goals (
    obtain ⟨E0, E1, E2, E3, E4⟩ := st5 (e := ⟨V, J, r1, r2, r3⟩) p0 p1 p2 p3 p4
    have hfin := set5_bl (e := ⟨V, J, r1, r2, r3⟩) bW5 (Nat.le_refl _)
    simp only [set5] at E0 E1 E2 E3 E4 hfin
    go_wp2_with fail
    refine bodyPost_ret (v := .tuple #[gelV ⟨V, J, r1, r2, r3⟩, .bool true]) ?_ rfl ⟨rfl, ?_⟩
    · simp [results, Tryz.results24, go_sem, gelV, E0, E1, E2, E3, E4]
    · first | exact hfin | exact hfin.drew | exact hfin.drewN _)
end Go.Proofs.YtfamnaekelmkpaaGreatDoor
