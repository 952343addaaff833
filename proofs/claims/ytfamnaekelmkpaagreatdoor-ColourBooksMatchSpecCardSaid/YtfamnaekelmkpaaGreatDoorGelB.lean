/- readGel of the program, at lines that are wrong. -/
import Derived.Test.YtfamnaekelmkpaaGreatDoorGelR
namespace Go.Proofs.YtfamnaekelmkpaaGreatDoor
open Go.RowKit Go.Lib Go.Sort

theorem flat_word : ∀ (t : List (List UInt8)) (x : List UInt8), x ∈ t → x.length ≤ (t.flatMap fun y => (32 : UInt8) :: y).length
  | [], _, h => by cases h
  | y :: t, x, h => by
    rw [List.flatMap_cons, List.length_append, List.length_cons]
    rcases List.mem_cons.1 h with rfl | h
    · omega
    · have := flat_word t x h; omega
theorem split_word {l a : List UInt8} {t : List (List UInt8)} (h : split1 32 l = a :: t) : ∀ x ∈ a :: t, x.length ≤ l.length := by
  intro x hx
  have := congrArg List.length (join_split h)
  unfold joinW at this
  rw [List.length_append] at this
  rcases List.mem_cons.1 hx with rfl | hx
  · omega
  · have := flat_word t x hx; omega
set_option maxRecDepth 100000 in
set_option maxHeartbeats 3200000 in
theorem readGel_a (s : ByteArray) (a : List UInt8) (t : List (List UInt8)) (w : World) (hs : s.size ≤ 1000000) (hm : MxAt w) (hev : EvAt w) (h : split1 32 s.data.toList = a :: t) (ha : numOk 9 a = false) :
    Calls Tryz.prog 24 #[.string s] w fun e w' => ∃ x : Gel, e = .returned (.tuple #[gelV x, .bool false]) ∧ Bl w w' := by
  obtain ⟨W0, hW0⟩ : ∃ W0, W0 = w.alloc (.cells #[.int .i64 0, .string ⟨#[]⟩, .int .i64 0, .int .i64 0, .int .i64 0] 33) := ⟨_, rfl⟩
  have b0 : Bl w W0 := by rw [hW0]; exact (Bl.refl w).alloc _
  have z0 : w.heap.size < W0.heap.size := by rw [hW0]; simp
  have q0 : W0.cell? ⟨w.heap.size, 0, none⟩ = some (.int .i64 0) := by rw [hW0]; simp
  have q1 : W0.cell? ⟨w.heap.size, 1, none⟩ = some (.string ⟨#[]⟩) := by rw [hW0]; simp
  have q2 : W0.cell? ⟨w.heap.size, 2, none⟩ = some (.int .i64 0) := by rw [hW0]; simp
  have q3 : W0.cell? ⟨w.heap.size, 3, none⟩ = some (.int .i64 0) := by rw [hW0]; simp
  have q4 : W0.cell? ⟨w.heap.size, 4, none⟩ = some (.int .i64 0) := by rw [hW0]; simp
  have fz : ∀ i, W0.frozen? ⟨w.heap.size, i, none⟩ = false := fun i => by rw [hW0]; simp
  have hsz := split_word h
  rw [← Lib.size_eq] at hsz
  have HS := Lib.hid (split_line s W0 hs (hm.bl b0))
  rw [h] at HS
  have HN := Lib.hid (fun n w' (hL : LineV w' n (a :: t) false) => number_bad n (a :: t) false w' hL (fun x hx => Nat.le_trans (hsz x hx) hs) (.inr (.inr ha)))
  have HT := Lib.hid (fun n ws w' (hL : LineV w' n ws true) hn hev hE => take_bad n ws true w' hL hn hev hE (.inl rfl))
  have HR := Lib.hid (fun n ws w' (hL : LineV w' n ws true) => rest_bad n ws w' hL)
  have hev0 := Lib.hid (hev.bl b0)
  clear h ha hsz hm hev hs
  simp only [colV] at HT
  go_enter Tryz.func24, Tryz.ntmps24
  go_wp2_with fail
  rw [← hW0]
  clear hW0
  refine HS.out.mono ?_
  rintro e w1 ⟨n, rfl, hn1, hL1, hb1⟩
  have HL1 := Lib.hid hL1
  have hE : 4 ≠ n := ev_ne hev0.out hn1
  have hlt1 : n < w1.heap.size := World.block_lt_of_cell? _ _ hL1.1
  clear hL1
  go_wp2_with fail
  refine (HN.out n w1 HL1.out).mono ?_
  rintro e w2 ⟨V, ws2, rfl, hL2, hg2⟩
  have HL2 := Lib.hid hL2
  clear hL2
  go_wp2_with fail
  refine (HT.out n ws2 w2 HL2.out (Nat.lt_of_lt_of_le hlt1 hg2.size) ((hev0.out.bl hb1).grown hg2 hE) hE).mono ?_
  rintro e w3 ⟨r1, r2, r3, ws3, rfl, hL3, hg3⟩
  have HL3 := Lib.hid hL3
  clear hL3
  go_wp2_with fail
  refine (HR.out n ws3 w3 HL3.out).mono ?_
  rintro e w4 ⟨rfl, hL4, hg4⟩
  have g4 := (bl_grown hb1 n).trans ((hg2.trans hg3).trans hg4)
  have HL4 := Lib.hid hL4
  clear hL4
  obtain ⟨W5, hW5⟩ : ∃ W5, W5 = w4.alloc (.cells #[.int .i64 V, .string ⟨#[]⟩, .int .i64 r1, .int .i64 r2, .int .i64 r3] 33) := ⟨_, rfl⟩
  have b5 : Bl w4 W5 := by rw [hW5]; exact (Bl.refl w4).alloc _
  have hN : w.heap.size ≠ n := by omega
  have g5 := g4.trans (bl_grown b5 n)
  have p0 := grown_cell g5 hN q0
  have p1 := grown_cell g5 hN q1
  have p2 := grown_cell g5 hN q2
  have p3 := grown_cell g5 hN q3
  have p4 := grown_cell g5 hN q4
  have pz : ∀ i, W5.frozen? ⟨w.heap.size, i, none⟩ = false := fun i => (grown_frozen g5 hN z0).trans (fz i)
  have z5 : w.heap.size < W5.heap.size := Nat.lt_of_lt_of_le z0 g5.size
  obtain ⟨k1, _⟩ := HL4.out.bl b5
  have x0 : W5.cell? ⟨w4.heap.size, 0, none⟩ = some (.int .i64 V) := by rw [hW5]; simp
  have x1 : W5.cell? ⟨w4.heap.size, 1, none⟩ = some (.string ⟨#[]⟩) := by rw [hW5]; simp
  have x2 : W5.cell? ⟨w4.heap.size, 2, none⟩ = some (.int .i64 r1) := by rw [hW5]; simp
  have x3 : W5.cell? ⟨w4.heap.size, 3, none⟩ = some (.int .i64 r2) := by rw [hW5]; simp
  have x4 : W5.cell? ⟨w4.heap.size, 4, none⟩ = some (.int .i64 r3) := by rw [hW5]; simp
  have hM : w.heap.size ≠ w4.heap.size := by have := g4.size; omega
  have bW5 : Bl w W5 := grown_bl b0 g5 (by omega)
  have HY := Lib.hid (fun w' h1 => ended_no n w' h1)
  clear q0 q1 q2 q3 q4 fz HN HT HR HL1 HL2 HL3 HL4 hev0 HS g4 hg2 hg3 hg4 hb1
  have pz0 := pz 0
  have pz1 := pz 1
  have pz2 := pz 2
  have pz3 := pz 3
  have pz4 := pz 4
  clear pz
  go_wp2_with fail
  rw [← hW5]
  clear hW5
  go_region_with (
    go_at_call 41
    (with_reducible refine (HY.out _ ?_).mono ?_)
    · first | exact k1 | (simp [World.cell?_setCell_other, hN, Ne.symm hN, k1]; done)
    rintro e w6 ⟨rfl, rfl⟩)
  all_goals (
    obtain ⟨E0, E1, E2, E3, E4⟩ := st5 (e := ⟨V, ⟨#[]⟩, r1, r2, r3⟩) p0 p1 p2 p3 p4
    have hfin := set5_bl (e := ⟨V, ⟨#[]⟩, r1, r2, r3⟩) bW5 (Nat.le_refl _)
    simp only [set5] at E0 E1 E2 E3 E4 hfin
    go_wp2_with fail
    refine bodyPost_ret (v := .tuple #[gelV ⟨V, ⟨#[]⟩, r1, r2, r3⟩, .bool false]) ?_ rfl ⟨⟨V, ⟨#[]⟩, r1, r2, r3⟩, rfl, ?_⟩
    · simp [results, Tryz.results24, go_sem, gelV, E0, E1, E2, E3, E4]
    · first | exact hfin | exact hfin.drew | exact hfin.drewN _)
set_option maxRecDepth 100000 in
set_option maxHeartbeats 3200000 in
theorem readGel_b (s : ByteArray) (a : List UInt8) (t : List (List UInt8)) (w : World) (hs : s.size ≤ 1000000) (hm : MxAt w) (hev : EvAt w) (h : split1 32 s.data.toList = a :: t) (ha : numOk 9 a = true) (hb : t = [] ∨ rdX (t.headD []) ≠ 0) :
    Calls Tryz.prog 24 #[.string s] w fun e w' => ∃ x : Gel, e = .returned (.tuple #[gelV x, .bool false]) ∧ Bl w w' := by
  obtain ⟨W0, hW0⟩ : ∃ W0, W0 = w.alloc (.cells #[.int .i64 0, .string ⟨#[]⟩, .int .i64 0, .int .i64 0, .int .i64 0] 33) := ⟨_, rfl⟩
  have b0 : Bl w W0 := by rw [hW0]; exact (Bl.refl w).alloc _
  have z0 : w.heap.size < W0.heap.size := by rw [hW0]; simp
  have q0 : W0.cell? ⟨w.heap.size, 0, none⟩ = some (.int .i64 0) := by rw [hW0]; simp
  have q1 : W0.cell? ⟨w.heap.size, 1, none⟩ = some (.string ⟨#[]⟩) := by rw [hW0]; simp
  have q2 : W0.cell? ⟨w.heap.size, 2, none⟩ = some (.int .i64 0) := by rw [hW0]; simp
  have q3 : W0.cell? ⟨w.heap.size, 3, none⟩ = some (.int .i64 0) := by rw [hW0]; simp
  have q4 : W0.cell? ⟨w.heap.size, 4, none⟩ = some (.int .i64 0) := by rw [hW0]; simp
  have fz : ∀ i, W0.frozen? ⟨w.heap.size, i, none⟩ = false := fun i => by rw [hW0]; simp
  have hsz := split_word h
  rw [← Lib.size_eq] at hsz
  have HS := Lib.hid (split_line s W0 hs (hm.bl b0))
  rw [h] at HS
  have HN := Lib.hid (fun n w' (hL : LineV w' n (a :: t) false) => number_ok n a t w' hL (by have := hsz a List.mem_cons_self; omega) ha)
  have HT := Lib.hid (fun n w' (hL : LineV w' n t false) hn hev hE => take_bad n t false w' hL hn hev hE (.inr hb))
  have HR := Lib.hid (fun n ws w' (hL : LineV w' n ws true) => rest_bad n ws w' hL)
  have hev0 := Lib.hid (hev.bl b0)
  clear h ha hsz hm hev hs hb
  generalize val a = V at *
  simp only [colV] at HT
  go_enter Tryz.func24, Tryz.ntmps24
  go_wp2_with fail
  rw [← hW0]
  clear hW0
  refine HS.out.mono ?_
  rintro e w1 ⟨n, rfl, hn1, hL1, hb1⟩
  have HL1 := Lib.hid hL1
  have hE : 4 ≠ n := ev_ne hev0.out hn1
  have hlt1 : n < w1.heap.size := World.block_lt_of_cell? _ _ hL1.1
  clear hL1
  go_wp2_with fail
  refine (HN.out n w1 HL1.out).mono ?_
  rintro e w2 ⟨rfl, hL2, hg2⟩
  have HL2 := Lib.hid hL2
  clear hL2
  go_wp2_with fail
  refine (HT.out n w2 HL2.out (Nat.lt_of_lt_of_le hlt1 hg2.size) ((hev0.out.bl hb1).grown hg2 hE) hE).mono ?_
  rintro e w3 ⟨r1, r2, r3, ws3, rfl, hL3, hg3⟩
  have HL3 := Lib.hid hL3
  clear hL3
  go_wp2_with fail
  refine (HR.out n ws3 w3 HL3.out).mono ?_
  rintro e w4 ⟨rfl, hL4, hg4⟩
  have g4 := (bl_grown hb1 n).trans ((hg2.trans hg3).trans hg4)
  have HL4 := Lib.hid hL4
  clear hL4
  obtain ⟨W5, hW5⟩ : ∃ W5, W5 = w4.alloc (.cells #[.int .i64 V, .string ⟨#[]⟩, .int .i64 r1, .int .i64 r2, .int .i64 r3] 33) := ⟨_, rfl⟩
  have b5 : Bl w4 W5 := by rw [hW5]; exact (Bl.refl w4).alloc _
  have hN : w.heap.size ≠ n := by omega
  have g5 := g4.trans (bl_grown b5 n)
  have p0 := grown_cell g5 hN q0
  have p1 := grown_cell g5 hN q1
  have p2 := grown_cell g5 hN q2
  have p3 := grown_cell g5 hN q3
  have p4 := grown_cell g5 hN q4
  have pz : ∀ i, W5.frozen? ⟨w.heap.size, i, none⟩ = false := fun i => (grown_frozen g5 hN z0).trans (fz i)
  have z5 : w.heap.size < W5.heap.size := Nat.lt_of_lt_of_le z0 g5.size
  obtain ⟨k1, _⟩ := HL4.out.bl b5
  have x0 : W5.cell? ⟨w4.heap.size, 0, none⟩ = some (.int .i64 V) := by rw [hW5]; simp
  have x1 : W5.cell? ⟨w4.heap.size, 1, none⟩ = some (.string ⟨#[]⟩) := by rw [hW5]; simp
  have x2 : W5.cell? ⟨w4.heap.size, 2, none⟩ = some (.int .i64 r1) := by rw [hW5]; simp
  have x3 : W5.cell? ⟨w4.heap.size, 3, none⟩ = some (.int .i64 r2) := by rw [hW5]; simp
  have x4 : W5.cell? ⟨w4.heap.size, 4, none⟩ = some (.int .i64 r3) := by rw [hW5]; simp
  have hM : w.heap.size ≠ w4.heap.size := by have := g4.size; omega
  have bW5 : Bl w W5 := grown_bl b0 g5 (by omega)
  have HY := Lib.hid (fun w' h1 => ended_no n w' h1)
  clear q0 q1 q2 q3 q4 fz HN HT HR HL1 HL2 HL3 HL4 hev0 HS g4 hg2 hg3 hg4 hb1
  have pz0 := pz 0
  have pz1 := pz 1
  have pz2 := pz 2
  have pz3 := pz 3
  have pz4 := pz 4
  clear pz
  go_wp2_with fail
  rw [← hW5]
  clear hW5
  go_region_with (
    go_at_call 41
    (with_reducible refine (HY.out _ ?_).mono ?_)
    · first | exact k1 | (simp [World.cell?_setCell_other, hN, Ne.symm hN, k1]; done)
    rintro e w6 ⟨rfl, rfl⟩)
  all_goals (
    obtain ⟨E0, E1, E2, E3, E4⟩ := st5 (e := ⟨V, ⟨#[]⟩, r1, r2, r3⟩) p0 p1 p2 p3 p4
    have hfin := set5_bl (e := ⟨V, ⟨#[]⟩, r1, r2, r3⟩) bW5 (Nat.le_refl _)
    simp only [set5] at E0 E1 E2 E3 E4 hfin
    go_wp2_with fail
    refine bodyPost_ret (v := .tuple #[gelV ⟨V, ⟨#[]⟩, r1, r2, r3⟩, .bool false]) ?_ rfl ⟨⟨V, ⟨#[]⟩, r1, r2, r3⟩, rfl, ?_⟩
    · simp [results, Tryz.results24, go_sem, gelV, E0, E1, E2, E3, E4]
    · first | exact hfin | exact hfin.drew | exact hfin.drewN _)
set_option maxRecDepth 100000 in
set_option maxHeartbeats 3200000 in
theorem readGel_c (s : ByteArray) (a b : List UInt8) (t : List (List UInt8)) (w : World) (hs : s.size ≤ 1000000) (hm : MxAt w) (hev : EvAt w) (h : split1 32 s.data.toList = a :: b :: t) (ha : numOk 9 a = true) (hb : rdX b = 0) (ht : (jn t).isEmpty = true) :
    Calls Tryz.prog 24 #[.string s] w fun e w' => ∃ x : Gel, e = .returned (.tuple #[gelV x, .bool false]) ∧ Bl w w' := by
  obtain ⟨W0, hW0⟩ : ∃ W0, W0 = w.alloc (.cells #[.int .i64 0, .string ⟨#[]⟩, .int .i64 0, .int .i64 0, .int .i64 0] 33) := ⟨_, rfl⟩
  have b0 : Bl w W0 := by rw [hW0]; exact (Bl.refl w).alloc _
  have z0 : w.heap.size < W0.heap.size := by rw [hW0]; simp
  have q0 : W0.cell? ⟨w.heap.size, 0, none⟩ = some (.int .i64 0) := by rw [hW0]; simp
  have q1 : W0.cell? ⟨w.heap.size, 1, none⟩ = some (.string ⟨#[]⟩) := by rw [hW0]; simp
  have q2 : W0.cell? ⟨w.heap.size, 2, none⟩ = some (.int .i64 0) := by rw [hW0]; simp
  have q3 : W0.cell? ⟨w.heap.size, 3, none⟩ = some (.int .i64 0) := by rw [hW0]; simp
  have q4 : W0.cell? ⟨w.heap.size, 4, none⟩ = some (.int .i64 0) := by rw [hW0]; simp
  have fz : ∀ i, W0.frozen? ⟨w.heap.size, i, none⟩ = false := fun i => by rw [hW0]; simp
  obtain ⟨l1, l2, l3⟩ := split_sizes h
  rw [← Lib.size_eq] at l1 l2 l3
  have HS := Lib.hid (split_line s W0 hs (hm.bl b0))
  rw [h] at HS
  have HN := Lib.hid (fun n w' (hL : LineV w' n (a :: b :: t) false) => number_ok n a (b :: t) w' hL (by omega) ha)
  have HT := Lib.hid (fun n w' (hL : LineV w' n (b :: t) false) hn hev hE => take_ok n b t w' hL hn hev hE hb)
  have HR := Lib.hid (fun n w' (hL : LineV w' n t false) => rest_any n t w' hL (by omega))
  rw [ht] at HR
  have hev0 := Lib.hid (hev.bl b0)
  clear h ha hb ht l1 l2 l3 hm hev hs
  obtain ⟨J, hJ⟩ : ∃ J, J = bs (jn t) := ⟨_, rfl⟩
  rw [← hJ] at HR
  clear hJ
  simp only [colV] at HT
  generalize val a = V at *
  generalize (rdV b).1 = r1 at *
  generalize (rdV b).2.1 = r2 at *
  generalize (rdV b).2.2 = r3 at *
  go_enter Tryz.func24, Tryz.ntmps24
  go_wp2_with fail
  rw [← hW0]
  clear hW0
  refine HS.out.mono ?_
  rintro e w1 ⟨n, rfl, hn1, hL1, hb1⟩
  have HL1 := Lib.hid hL1
  have hE : 4 ≠ n := ev_ne hev0.out hn1
  have hlt1 : n < w1.heap.size := World.block_lt_of_cell? _ _ hL1.1
  clear hL1
  go_wp2_with fail
  refine (HN.out n w1 HL1.out).mono ?_
  rintro e w2 ⟨rfl, hL2, hg2⟩
  have HL2 := Lib.hid hL2
  clear hL2
  go_wp2_with fail
  refine (HT.out n w2 HL2.out (Nat.lt_of_lt_of_le hlt1 hg2.size) ((hev0.out.bl hb1).grown hg2 hE) hE).mono ?_
  rintro e w3 ⟨rfl, hL3, hg3⟩
  have HL3 := Lib.hid hL3
  clear hL3
  go_wp2_with fail
  refine (HR.out n w3 HL3.out).mono ?_
  rintro e w4 ⟨rfl, hL4, hg4⟩
  have g4 := (bl_grown hb1 n).trans ((hg2.trans hg3).trans hg4)
  have HL4 := Lib.hid hL4
  clear hL4
  obtain ⟨W5, hW5⟩ : ∃ W5, W5 = w4.alloc (.cells #[.int .i64 V, .string J, .int .i64 r1, .int .i64 r2, .int .i64 r3] 33) := ⟨_, rfl⟩
  have b5 : Bl w4 W5 := by rw [hW5]; exact (Bl.refl w4).alloc _
  have hN : w.heap.size ≠ n := by omega
  have g5 := g4.trans (bl_grown b5 n)
  have p0 := grown_cell g5 hN q0
  have p1 := grown_cell g5 hN q1
  have p2 := grown_cell g5 hN q2
  have p3 := grown_cell g5 hN q3
  have p4 := grown_cell g5 hN q4
  have pz : ∀ i, W5.frozen? ⟨w.heap.size, i, none⟩ = false := fun i => (grown_frozen g5 hN z0).trans (fz i)
  have z5 : w.heap.size < W5.heap.size := Nat.lt_of_lt_of_le z0 g5.size
  obtain ⟨k1, _⟩ := HL4.out.bl b5
  have x0 : W5.cell? ⟨w4.heap.size, 0, none⟩ = some (.int .i64 V) := by rw [hW5]; simp
  have x1 : W5.cell? ⟨w4.heap.size, 1, none⟩ = some (.string J) := by rw [hW5]; simp
  have x2 : W5.cell? ⟨w4.heap.size, 2, none⟩ = some (.int .i64 r1) := by rw [hW5]; simp
  have x3 : W5.cell? ⟨w4.heap.size, 3, none⟩ = some (.int .i64 r2) := by rw [hW5]; simp
  have x4 : W5.cell? ⟨w4.heap.size, 4, none⟩ = some (.int .i64 r3) := by rw [hW5]; simp
  have hM : w.heap.size ≠ w4.heap.size := by have := g4.size; omega
  have bW5 : Bl w W5 := grown_bl b0 g5 (by omega)
  have HY := Lib.hid (fun w' h1 => ended_no n w' h1)
  clear q0 q1 q2 q3 q4 fz HN HT HR HL1 HL2 HL3 HL4 hev0 HS g4 hg2 hg3 hg4 hb1
  have pz0 := pz 0
  have pz1 := pz 1
  have pz2 := pz 2
  have pz3 := pz 3
  have pz4 := pz 4
  clear pz
  go_wp2_with fail
  rw [← hW5]
  clear hW5
  go_region_with (
    go_at_call 41
    (with_reducible refine (HY.out _ ?_).mono ?_)
    · first | exact k1 | (simp [World.cell?_setCell_other, hN, Ne.symm hN, k1]; done)
    rintro e w6 ⟨rfl, rfl⟩)
  all_goals (
    obtain ⟨E0, E1, E2, E3, E4⟩ := st5 (e := ⟨V, J, r1, r2, r3⟩) p0 p1 p2 p3 p4
    have hfin := set5_bl (e := ⟨V, J, r1, r2, r3⟩) bW5 (Nat.le_refl _)
    simp only [set5] at E0 E1 E2 E3 E4 hfin
    go_wp2_with fail
    refine bodyPost_ret (v := .tuple #[gelV ⟨V, J, r1, r2, r3⟩, .bool false]) ?_ rfl ⟨⟨V, J, r1, r2, r3⟩, rfl, ?_⟩
    · simp [results, Tryz.results24, go_sem, gelV, E0, E1, E2, E3, E4]
    · first | exact hfin | exact hfin.drew | exact hfin.drewN _)
end Go.Proofs.YtfamnaekelmkpaaGreatDoor
