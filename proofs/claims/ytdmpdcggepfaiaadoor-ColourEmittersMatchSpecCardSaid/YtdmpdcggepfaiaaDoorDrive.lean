/- Drive of the program. -/
import Derived.Test.YtdmpdcggepfaiaaDoorGiven
import Derived.Test.YtdmpdcggepfaiaaDoorEmA
import Derived.Test.YtdmpdcggepfaiaaDoorOwnR
import Derived.Test.YtdmpdcggepfaiaaDoorCel
import Derived.Deep.RegionHeld3
import Derived.Deep.DeepCutAuto
namespace Go.Proofs.YtdmpdcggepfaiaaDoor
open Go.RowKit Go.Sort

/-- The levels behind k rounds. -/
def lsK (c : Int × Int × Int) (L : List Em) (k : Nat) (i : Nat) : Int := if i < k then dLev c L i else 0
theorem lsK_ok {c : Int × Int × Int} {L : List Em} (hL : EmsLv L) (c0 : 0 ≤ c.1 ∧ 0 ≤ c.2.1 ∧ 0 ≤ c.2.2) (k i : Nat) : 0 ≤ lsK c L k i ∧ lsK c L k i ≤ 65535 := by
  unfold lsK; split
  · exact dLev_ok hL c0 i
  · omega
theorem lsK_left {c : Int × Int × Int} {L : List Em} (k : Nat) (hk : k ≤ L.length) :
    65535 * c.1 - sumN (fun i => emC Em.r L i * lsK c L k i) L.length = (leftD c L k).1 ∧ 65535 * c.2.1 - sumN (fun i => emC Em.g L i * lsK c L k i) L.length = (leftD c L k).2.1 ∧ 65535 * c.2.2 - sumN (fun i => emC Em.b L i * lsK c L k i) L.length = (leftD c L k).2.2 := by
  obtain ⟨h1, h2, h3⟩ := left_sum c L k hk
  have s := fun (a : Nat → Int) => sum_part a (dLev c L) k L.length hk
  refine ⟨?_, ?_, ?_⟩
  · rw [h1]; show 65535 * c.1 - sumN (fun i => emC Em.r L i * (if i < k then dLev c L i else 0)) L.length = _; rw [s]
  · rw [h2]; show 65535 * c.2.1 - sumN (fun i => emC Em.g L i * (if i < k then dLev c L i else 0)) L.length = _; rw [s]
  · rw [h3]; show 65535 * c.2.2 - sumN (fun i => emC Em.b L i * (if i < k then dLev c L i else 0)) L.length = _; rw [s]
theorem left_le {c : Int × Int × Int} {L : List Em} (hL : EmsLv L) (c0 : 0 ≤ c.1 ∧ 0 ≤ c.2.1 ∧ 0 ≤ c.2.2) (c1 : c.1 ≤ 65535 ∧ c.2.1 ≤ 65535 ∧ c.2.2 ≤ 65535) (k : Nat) (hk : k ≤ L.length) :
    (0 ≤ (leftD c L k).1 ∧ (leftD c L k).1 ≤ 4294836225) ∧ (0 ≤ (leftD c L k).2.1 ∧ (leftD c L k).2.1 ≤ 4294836225) ∧ (0 ≤ (leftD c L k).2.2 ∧ (leftD c L k).2.2 ≤ 4294836225) := by
  obtain ⟨h1, h2, h3⟩ := left_sum c L k hk
  obtain ⟨p1, p2, p3⟩ := left_ok hL c0 k hk
  have b1 := (sumN_bd (a := fun i => emC Em.r L i * dLev c L i) k (fun i hi => by rw [emC_at _ _ _ (by omega)]; exact lev_mul (hL L[i] (List.getElem_mem (by omega))).1 (dLev_ok hL c0 i))).1
  have b2 := (sumN_bd (a := fun i => emC Em.g L i * dLev c L i) k (fun i hi => by rw [emC_at _ _ _ (by omega)]; exact lev_mul (hL L[i] (List.getElem_mem (by omega))).2.1 (dLev_ok hL c0 i))).1
  have b3 := (sumN_bd (a := fun i => emC Em.b L i * dLev c L i) k (fun i hi => by rw [emC_at _ _ _ (by omega)]; exact lev_mul (hL L[i] (List.getElem_mem (by omega))).2.2 (dLev_ok hL c0 i))).1
  omega

/-- The blocks of Drive's own. -/
def DrB (w : World) (sv : Value) (r g b : Int) (n gl b9 : Nat) (wr : World) : Prop :=
  wr.cell? ⟨w.heap.size, 0, none⟩ = some sv ∧ Cel3 wr (w.heap.size + 1) r g b ∧ (Cel3 wr (w.heap.size + 1 + 1) 0 0 0 ∧ wr.frozen? ⟨w.heap.size + 1 + 1, 0, none⟩ = false ∧ wr.frozen? ⟨w.heap.size + 1 + 1, 1, none⟩ = false ∧ wr.frozen? ⟨w.heap.size + 1 + 1, 2, none⟩ = false) ∧
  wr.cell? ⟨b9, 0, none⟩ = some (.slice (some ⟨gl, 0, none⟩) n n)
theorem frz_gr {w w' : World} {p : Addr} (h : w.frozen? p = false) (hl : p.block < w.heap.size) (g : Gr w w') : w'.frozen? p = false := by rw [g.frozen hl]; exact h
theorem DrB.gr {w : World} {sv : Value} {r g b : Int} {n gl b9 : Nat} {wr w' : World} (h : DrB w sv r g b n gl b9 wr) (m : Gr wr w') : DrB w sv r g b n gl b9 w' := by
  obtain ⟨h1, h2, ⟨h3, f0, f1, f2⟩, h4⟩ := h
  have hl : w.heap.size + 1 + 1 < wr.heap.size := World.block_lt_of_cell? _ _ h3.1
  exact ⟨m.cell h1, h2.gr m, ⟨h3.gr m, frz_gr f0 hl m, frz_gr f1 hl m, frz_gr f2 hl m⟩, m.cell h4⟩
theorem cell_far {W : World} {p q : Addr} {v u : Value} (h : W.cell? q = some u) (hne : p.block ≠ q.block) : (W.setCell p v).cell? q = some u := by
  rw [World.cell?_setCell_other _ _ _ _ (fun e => hne (by rw [e]))]; exact h
theorem DrB.set {w : World} {sv : Value} {r g b : Int} {n gl b9 : Nat} {wr : World} (h : DrB w sv r g b n gl b9 wr) (hg : w.heap.size + 1 + 1 < gl) (h9 : gl ≠ b9) (j : Nat) (v : Value) : DrB w sv r g b n gl b9 (wr.setCell ⟨gl, j, none⟩ v) := by
  obtain ⟨h1, h2, ⟨h3, f0, f1, f2⟩, h4⟩ := h
  exact ⟨cell_far h1 (by simp only; omega), h2.far (by simp only; omega) v, ⟨h3.far (by simp only; omega) v, by simpa using f0, by simpa using f1, by simpa using f2⟩, cell_far h4 h9⟩
/-- The row of levels. -/
def LvR (wr : World) (gl n : Nat) (ls : Nat → Int) : Prop := gl < wr.heap.size ∧ ∀ i, i < n → wr.cell? ⟨gl, i, none⟩ = some (.int .i64 (ls i)) ∧ wr.frozen? ⟨gl, i, none⟩ = false
theorem LvR.gr {wr w' : World} {gl n : Nat} {ls : Nat → Int} (h : LvR wr gl n ls) (m : Gr wr w') : LvR w' gl n ls :=
  ⟨Nat.lt_of_lt_of_le h.1 m.size, fun i hi => ⟨m.cell (h.2 i hi).1, frz_gr (h.2 i hi).2 h.1 m⟩⟩
theorem LvR.set {wr : World} {gl n : Nat} {c : Int × Int × Int} {L : List Em} {k : Nat} (h : LvR wr gl n (lsK c L k)) (hk : k < n) : LvR (wr.setCell ⟨gl, k, none⟩ (.int .i64 (dLev c L k))) gl n (lsK c L (k + 1)) := by
  refine ⟨by simpa using h.1, fun i hi => ⟨?_, by simpa using (h.2 i hi).2⟩⟩
  by_cases e : i = k
  · subst e
    rw [World.cell?_setCell_same _ _ _ (h.2 i hi).1]; unfold lsK; rw [if_pos (by omega)]
  · rw [World.cell?_setCell_other _ _ _ _ (fun e' => e (by cases e'; rfl)), (h.2 i hi).1]
    unfold lsK
    by_cases h1 : i < k
    · rw [if_pos h1, if_pos (by omega)]
    · rw [if_neg h1, if_neg (by omega)]

theorem pair_far3 {W : World} {a c : Addr} {u v : Value} {n : Nat} (h : W.cell? a = some u ∧ W.cell? c = some v) (h1 : n ≠ a.block) (h2 : n ≠ c.block) (x y z : Value) :
    (((W.setCell ⟨n, 0, none⟩ x).setCell ⟨n, 1, none⟩ y).setCell ⟨n, 2, none⟩ z).cell? a = some u ∧ (((W.setCell ⟨n, 0, none⟩ x).setCell ⟨n, 1, none⟩ y).setCell ⟨n, 2, none⟩ z).cell? c = some v :=
  ⟨cell_far (cell_far (cell_far h.1 h1) h1) h1, cell_far (cell_far (cell_far h.2 h2) h2) h2⟩
/-- What a round of Drive reads. -/
def DrS (wr : World) (b9 gl n : Nat) (e : Em) (w' : World) : Prop := w'.cell? ⟨b9, 0, none⟩ = some (.slice (some ⟨gl, 0, none⟩) n n) ∧ w'.cell? ⟨wr.heap.size, 1, none⟩ = some (.int .i64 e.r) ∧ w'.cell? ⟨wr.heap.size, 2, none⟩ = some (.int .i64 e.g) ∧ w'.cell? ⟨wr.heap.size, 3, none⟩ = some (.int .i64 e.b)
theorem DrS.set {wr : World} {b9 gl n : Nat} {e : Em} {w' : World} (h : DrS wr b9 gl n e w') (h1 : gl ≠ b9) (h2 : gl ≠ wr.heap.size) (j : Nat) (v : Value) : DrS wr b9 gl n e (w'.setCell ⟨gl, j, none⟩ v) :=
  ⟨cell_far h.1 h1, cell_far h.2.1 h2, cell_far h.2.2.1 h2, cell_far h.2.2.2 h2⟩
/-- Where the loop of Drive stands. -/
def DrRel (w : World) (sv : Value) (c : Int × Int × Int) (L : List Em) (gl b9 : Nat) (i : Value) (wr : World) : Prop := ∃ k : Nat, k ≤ L.length ∧ i = .int .i64 k ∧
  DrB w sv c.1 c.2.1 c.2.2 L.length gl b9 wr ∧ LvR wr gl L.length (lsK c L k) ∧ Bl w wr

set_option maxRecDepth 100000 in
set_option maxHeartbeats 6400000 in
theorem drive_ok (b off cap : Nat) (L : List Em) (r g bb : Int) (w : World) (hL : EmsAt w b off L) (hok : EmsOk L) (hck : ckAll L = 0) (hcol : isCol r g bb = true) :
    Calls Tryd.prog 26 #[.slice (some ⟨b, off, none⟩) L.length cap, .agg #[.int .i64 r, .int .i64 g, .int .i64 bb]] w fun e w' => ∃ gl : Nat, e = .returned (.tuple #[.slice (some ⟨gl, 0, none⟩) L.length L.length, .agg #[.int .i64 (gvC Em.r L (dLev (r, g, bb) L)), .int .i64 (gvC Em.g L (dLev (r, g, bb) L)), .int .i64 (gvC Em.b L (dLev (r, g, bb) L))], .int .i64 0]) ∧
      (∀ i, i < L.length → w'.cell? ⟨gl, i, none⟩ = some (.int .i64 (dLev (r, g, bb) L i))) ∧ Bl w w' := by
  obtain ⟨h0, h12, hlv0⟩ := ckAll_ok hck
  have hlv : EmsLv L := hlv0
  obtain ⟨hr, hg, hb⟩ := isCol_iff.1 hcol
  have HE := Lib.hid (fun w' (m : Bl w w') => (show Calls Tryd.prog 24 #[.slice (some ⟨b, off, none⟩) L.length cap] w' fun e w'' => e = .returned (.int .i64 0) ∧ Bl w' w'' from by
    have := checkEms_all (.slice (some ⟨b, off, none⟩) L.length cap) L w' ⟨_, _, rfl, by omega, fun _ => ⟨b, off, rfl, hL.bl m⟩⟩ hok
    rw [hck] at this; exact this))
  have HC := Lib.hid (fun w' => (show Calls Tryd.prog 29 #[.agg #[.int .i64 r, .int .i64 g, .int .i64 bb]] w' fun e w'' => e = .returned (.int .i64 0) ∧ Gr w' w'' from by
    have := check_col r g bb w'; unfold ckCol at this; rw [hcol] at this; exact this))
  have HL := Lib.hid hL
  have HV := Lib.hid hlv
  have hc0 : Hid ((0 ≤ r ∧ 0 ≤ g ∧ 0 ≤ bb) ∧ (r ≤ 65535 ∧ g ≤ 65535 ∧ bb ≤ 65535)) := ⟨⟨hr.1, hg.1, hb.1⟩, hr.2, hg.2, hb.2⟩
  obtain ⟨i0, hi, hz0, hz1, hz2⟩ := info_parts info_i
  clear hL hlv hlv0 hcol hck hr hg hb hok
  go_enter Tryd.func26, Tryd.ntmps26
  go_wp2_with fail
  refine (HE.out _ (((Bl.refl w).alloc _).alloc _ |>.alloc _)).mono ?_
  rintro e w1 ⟨rfl, m1⟩
  have hK : Hid (∀ w', Bl (((w.alloc (.cells #[.slice (some ⟨b, off, none⟩) L.length cap] 46)).alloc (.cells #[.int .i64 r, .int .i64 g, .int .i64 bb] 23)).alloc (.cells #[.int .i64 0, .int .i64 0, .int .i64 0] 23)) w' →
      w'.cell? ⟨w.heap.size, 0, none⟩ = some (.slice (some ⟨b, off, none⟩) L.length cap) ∧ Cel3 w' (w.heap.size + 1) r g bb ∧ (Cel3 w' (w.heap.size + 1 + 1) 0 0 0 ∧ w'.frozen? ⟨w.heap.size + 1 + 1, 0, none⟩ = false ∧ w'.frozen? ⟨w.heap.size + 1 + 1, 1, none⟩ = false ∧ w'.frozen? ⟨w.heap.size + 1 + 1, 2, none⟩ = false)) := fun w' m =>
    ⟨m.cell (by go_simp), ⟨m.cell (by go_simp), m.cell (by go_simp), m.cell (by go_simp)⟩, own3b (n := w.heap.size + 1 + 1) (by simp) m⟩
  have hW : Bl w (((w.alloc (.cells #[.slice (some ⟨b, off, none⟩) L.length cap] 46)).alloc (.cells #[.int .i64 r, .int .i64 g, .int .i64 bb] 23)).alloc (.cells #[.int .i64 0, .int .i64 0, .int .i64 0] 23)) := (((Bl.refl w).alloc _).alloc _).alloc _
  obtain ⟨a0, ⟨a1, a2, a3⟩, ⟨a4, a5, a6⟩, a7, a8, a9⟩ := hK.out _ m1
  go_wp2_with fail
  refine (HC.out _).mono ?_
  rintro e w2 ⟨rfl, k2⟩
  clear a0 a1 a2 a3 a4 a5 a6 a7 a8 a9
  have m2 := m1.trans k2.bl
  clear k2 m1
  obtain ⟨a0, ⟨a1, a2, a3⟩, ⟨a4, a5, a6⟩, a7, a8, a9⟩ := hK.out _ m2
  have hs2 : w.heap.size + 1 + 1 < w2.heap.size := World.block_lt_of_cell? _ _ a4
  go_wp2_with (at_make; refine wpList_make_full _ rfl _ _ 47 rfl w2.heap.size 3 i0 (.int .i64 0) 1 Tryd.underlying47 hi hz0 hz1 _ _ _ _ L.length rfl rfl (by omega) (by omega) (by rw [hz2]; omega) (by unfold maxLen; omega) (Nat.le_refl _) ?_; intro w3 hown3 hg3; clear a0 a1 a2 a3 a4 a5 a6 a7 a8 a9; have m3 := m2.grown hg3 (fun k hk => by cases hk); obtain ⟨a0, ⟨a1, a2, a3⟩, ⟨a4, a5, a6⟩, a7, a8, a9⟩ := hK.out _ m3; have HO := Lib.hid (own_made hown3); clear hown3 hg3; have hs3 : w.heap.size + 1 + 1 < w3.heap.size := World.block_lt_of_cell? _ _ a4; have hs4 : w.heap.size < w3.heap.size := World.block_lt_of_cell? _ _ a0)
  have hown := HO.out
  have hgl := hown.base
  have hDB : Hid (DrB w (.slice (some ⟨b, off, none⟩) L.length cap) r g bb L.length w2.heap.size w3.heap.size (w3.alloc (.cells #[.slice (some ⟨w2.heap.size, 0, none⟩) L.length L.length] 47))) := by
    have g0 : Gr w3 (w3.alloc (.cells #[.slice (some ⟨w2.heap.size, 0, none⟩) L.length L.length] 47)) := (Gr.refl _).alloc _
    exact ⟨g0.cell a0, (show Cel3 w3 (w.heap.size + 1) r g bb from ⟨a1, a2, a3⟩).gr g0, ⟨(show Cel3 w3 (w.heap.size + 1 + 1) 0 0 0 from ⟨a4, a5, a6⟩).gr g0, frz_gr a7 hs3 g0, frz_gr a8 hs3 g0, frz_gr a9 hs3 g0⟩, by simp⟩
  have hLR : Hid (LvR (w3.alloc (.cells #[.slice (some ⟨w2.heap.size, 0, none⟩) L.length L.length] 47)) w2.heap.size L.length (lsK (r, g, bb) L 0)) := by
    have h3 : LvR w3 w2.heap.size L.length (lsK (r, g, bb) L 0) := ⟨hgl.2, fun i hi => ⟨by
      rw [hown.cell i (by simpa using hi)]; unfold lsK; rw [if_neg (by omega)]; simp [hi], hown.free i⟩⟩
    exact h3.gr ((Gr.refl _).alloc _)
  have hB3 : Bl w (w3.alloc (.cells #[.slice (some ⟨w2.heap.size, 0, none⟩) L.length L.length] 47)) := (hW.trans m3).alloc _
  have hx1 : w.heap.size + 1 + 1 < w2.heap.size := hs2
  have hx2 : w2.heap.size < w3.heap.size := hgl.2
  have hx3 : w2.heap.size ≠ w3.heap.size := by omega
  have hx5 : w3.heap.size ≠ w2.heap.size := by omega
  have hx4 : w.heap.size ≤ w2.heap.size := by omega
  clear a1 a2 a3 a4 a5 a6 a7 a8 a9 hown HO hW hK hgl m2 m3
  go_wp2_with fail
  clear a0 hs4
  go_loopw [30] (fun i wr => DrRel w (.slice (some ⟨b, off, none⟩) L.length cap) (r, g, bb) L w2.heap.size w3.heap.size i wr) (fun i _ => L.length - (intOf i).toNat)
  case atStart => exact ⟨0, Nat.zero_le _, rfl, hDB.out, hLR.out, hB3⟩
  case round =>
    obtain ⟨k, hk, rfl, hdb, hlr, hbl⟩ := hrel
    have HD := Lib.hid hdb
    have HR := Lib.hid hlr
    clear hDB hLR hB3
    by_cases hlt : k < L.length
    · obtain ⟨c0, c1, c2, c3⟩ := (HL.out.bl hbl) k hlt
      obtain ⟨l0, l1⟩ := hlr.2 k hlt
      obtain ⟨hl9⟩ : wr.cell? ⟨w3.heap.size, 0, none⟩ = some (.slice (some ⟨w2.heap.size, 0, none⟩) L.length L.length) ∧ True := ⟨hdb.2.2.2, trivial⟩
      have hz1 : w3.heap.size < wr.heap.size := World.block_lt_of_cell? _ _ hl9
      have hz2 : w2.heap.size < wr.heap.size := World.block_lt_of_cell? _ _ l0
      have hne1 : w2.heap.size ≠ wr.heap.size := by omega
      have hne2 : wr.heap.size ≠ w2.heap.size := by omega
      clear hdb hlr
      obtain ⟨e, he⟩ : ∃ e, e = L[k] := ⟨_, rfl⟩
      have hX := left_le (c := (r, g, bb)) HV.out hc0.out.1 hc0.out.2 k (by omega)
      have hev := HV.out L[k] (List.getElem_mem hlt)
      have hdl : Hid (gLev e (leftD (r, g, bb) L k) = dLev (r, g, bb) L k) := by show _ = _; rw [he, dLev_at _ _ _ hlt]
      rw [← he] at c0 c1 c2 c3 hev
      clear he
      have hg0 : Gr wr (wr.alloc (.cells #[.string e.name, .int .i64 e.r, .int .i64 e.g, .int .i64 e.b] 55)) := (Gr.refl _).alloc _
      have hsum := lsK_left (c := (r, g, bb)) (L := L) k (by omega)
      have hlk := fun i => lsK_ok (c := (r, g, bb)) HV.out hc0.out.1 k i
      have HG := Lib.hid (fun w' (m : Gr wr w') => greatest_any e (leftD (r, g, bb) L k) #[.pointer (some ⟨w.heap.size + 1, 0, none⟩), .pointer (some ⟨w.heap.size, 0, none⟩), .pointer (some ⟨w3.heap.size, 0, none⟩)] w' hev.1.1 hev.2.1.1 hev.2.2.1 hX.1 hX.2.1 hX.2.2
        (fun w'' m' => by
          have D := HD.out.gr (m.trans m')
          have R := HR.out.gr (m.trans m')
          have := left_red b off cap w2.heap.size 0 L.length (w.heap.size + 1) w.heap.size w3.heap.size r g bb L (lsK (r, g, bb) L k) w'' h0 h12 (HL.out.bl (hbl.trans (m.trans m').bl)) HV.out (fun i hi => by rw [Nat.zero_add]; exact (R.2 i hi).1) (fun i _ => hlk i) D.2.1.1 D.2.1.2.1 D.2.1.2.2 ⟨hc0.out.1.1, hc0.out.2.1⟩ D.1 D.2.2.2
          rw [hsum.1] at this; exact this)
        (fun w'' m' => by
          have D := HD.out.gr (m.trans m')
          have R := HR.out.gr (m.trans m')
          have := left_green b off cap w2.heap.size 0 L.length (w.heap.size + 1) w.heap.size w3.heap.size r g bb L (lsK (r, g, bb) L k) w'' h0 h12 (HL.out.bl (hbl.trans (m.trans m').bl)) HV.out (fun i hi => by rw [Nat.zero_add]; exact (R.2 i hi).1) (fun i _ => hlk i) D.2.1.1 D.2.1.2.1 D.2.1.2.2 ⟨hc0.out.1.2.1, hc0.out.2.2.1⟩ D.1 D.2.2.2
          rw [hsum.2.1] at this; exact this)
        (fun w'' m' => by
          have D := HD.out.gr (m.trans m')
          have R := HR.out.gr (m.trans m')
          have := left_blue b off cap w2.heap.size 0 L.length (w.heap.size + 1) w.heap.size w3.heap.size r g bb L (lsK (r, g, bb) L k) w'' h0 h12 (HL.out.bl (hbl.trans (m.trans m').bl)) HV.out (fun i hi => by rw [Nat.zero_add]; exact (R.2 i hi).1) (fun i _ => hlk i) D.2.1.1 D.2.1.2.1 D.2.1.2.2 ⟨hc0.out.1.2.2, hc0.out.2.2.2⟩ D.1 D.2.2.2
          rw [hsum.2.2] at this; exact this))
      simp only [hdl.out] at HG
      clear hX hev hsum hlk
      generalize hdv : dLev (r, g, bb) L k = dv at HG
      have HDV := Lib.hid hdv
      clear hdv hdl
      go_wp2_with fail
      have HKs := Lib.hid (fun w' (m : Gr (wr.alloc (.cells #[.string e.name, .int .i64 e.r, .int .i64 e.g, .int .i64 e.b] 55)) w') => (show DrS wr w3.heap.size w2.heap.size L.length e w' from
        ⟨m.cell (hg0.cell hl9), m.cell (by simp), m.cell (by simp), m.cell (by simp)⟩))
      clear c0 c1 c2 c3 hl9
      go_region_held3 (fun w' => w'.cell? ⟨w3.heap.size, 0, none⟩ = some (.slice (some ⟨w2.heap.size, 0, none⟩) L.length L.length) ∧ w'.cell? ⟨wr.heap.size, 1, none⟩ = some (.int .i64 e.r) ∧ w'.cell? ⟨wr.heap.size, 2, none⟩ = some (.int .i64 e.g) ∧ w'.cell? ⟨wr.heap.size, 3, none⟩ = some (.int .i64 e.b))
        ((first | (refine HKs.out _ ?_; (((repeat (first | with_reducible exact Gr.refl _ | with_reducible assumption | with_reducible refine Gr.drew ?_ | with_reducible refine Gr.alloc ?_ _ | with_reducible refine Gr.trans ?_ (by assumption))); done); done)) | (refine DrS.set (HKs.out _ ?_) hx3 hne1 _ _; (((repeat (first | with_reducible exact Gr.refl _ | with_reducible assumption | with_reducible refine Gr.drew ?_ | with_reducible refine Gr.alloc ?_ _ | with_reducible refine Gr.trans ?_ (by assumption))); done); done))))
        ((go_at_call 64; ((with_reducible refine (HG.out _ ?_).mono ?_); (focus ((repeat (first | with_reducible exact Gr.refl _ | with_reducible assumption | with_reducible refine Gr.drew ?_ | with_reducible refine Gr.alloc ?_ _ | with_reducible refine Gr.trans ?_ (by assumption))); done)); rintro e' w4 ⟨rfl, g4⟩; refine (fun (hG4 : Gr wr w4) => ?_) ?_; rotate_left; (focus ((repeat (first | with_reducible exact Gr.refl _ | with_reducible assumption | with_reducible refine Gr.drew ?_ | with_reducible refine Gr.alloc ?_ _ | with_reducible refine Gr.trans ?_ (by assumption))); done)); have p0 := hG4.cell l0; have p1 := frz_gr l1 hz2 hG4; have HG4 := Lib.hid hG4; clear hG4)))
      all_goals
        go_wp2_with fail
        go_roundw
        case rel => exact ⟨k + 1, by omega, by go_num, (HD.out.gr HG4.out).set hx1 hx3 _ _, by rw [← HDV.out]; exact (HR.out.gr HG4.out).set hlt, (hbl.trans HG4.out.bl).setCell hx4 _⟩
        case measure => simp [intOf]; omega
    · obtain rfl : k = L.length := by omega
      have hgv : ∀ f, gvC f L (lsK (r, g, bb) L L.length) = gvC f L (dLev (r, g, bb) L) := fun f => by
        unfold gvC
        rw [sumN_congr (a := fun i => emC f L i * lsK (r, g, bb) L L.length i) (c := fun i => emC f L i * dLev (r, g, bb) L i) L.length (fun i hi => by simp only [lsK, if_pos hi])]
      have hlk := fun i => lsK_ok (c := (r, g, bb)) HV.out hc0.out.1 L.length i
      have HG := Lib.hid (fun w' (m : Gr wr w') => given_any b off cap w2.heap.size 0 L.length L (lsK (r, g, bb) L L.length) w' h0 h12 (HL.out.bl (hbl.trans m.bl)) HV.out (fun i hi => by rw [Nat.zero_add]; exact ((HR.out.gr m).2 i hi).1) (fun i _ => hlk i))
      simp only [hgv] at HG
      obtain ⟨hl9⟩ : wr.cell? ⟨w3.heap.size, 0, none⟩ = some (.slice (some ⟨w2.heap.size, 0, none⟩) L.length L.length) ∧ True := ⟨hdb.2.2.2, trivial⟩
      have hl2 := hdb.1
      have HKs := Lib.hid (fun w' (m : Gr wr w') => (show w'.cell? ⟨w3.heap.size, 0, none⟩ = some (.slice (some ⟨w2.heap.size, 0, none⟩) L.length L.length) ∧ w'.cell? ⟨w.heap.size, 0, none⟩ = some (.slice (some ⟨b, off, none⟩) L.length cap) from ⟨m.cell hl9, m.cell hl2⟩))
      have hn9 : w3.heap.size ≠ w.heap.size + 1 + 1 := by omega
      clear hgv hlk hdb hlr hl9 hl2
      have hcells : Hid (∀ w4, Gr wr w4 → ∀ (x y z : Value), (∀ i, i < L.length → ((((w4.setCell ⟨w.heap.size + 1 + 1, 0, none⟩ x).setCell ⟨w.heap.size + 1 + 1, 1, none⟩ y).setCell ⟨w.heap.size + 1 + 1, 2, none⟩ z).cell? ⟨w2.heap.size, i, none⟩ = some (.int .i64 (dLev (r, g, bb) L i)))) ∧ Bl w (((w4.setCell ⟨w.heap.size + 1 + 1, 0, none⟩ x).setCell ⟨w.heap.size + 1 + 1, 1, none⟩ y).setCell ⟨w.heap.size + 1 + 1, 2, none⟩ z)) := fun w4 m x y z => by
        refine ⟨fun i hi => ?_, set3b (by omega) (hbl.trans m.bl) x y z⟩
        have h := ((HR.out.gr m).2 i hi).1
        unfold lsK at h
        rw [if_pos hi] at h
        exact cell_far (cell_far (cell_far h (by simp only; omega)) (by simp only; omega)) (by simp only; omega)
      go_wp2_with fail
      go_region_held3 (fun w' => w'.cell? ⟨w3.heap.size, 0, none⟩ = some (.slice (some ⟨w2.heap.size, 0, none⟩) L.length L.length) ∧ w'.cell? ⟨w.heap.size, 0, none⟩ = some (.slice (some ⟨b, off, none⟩) L.length cap))
        ((first | (refine HKs.out _ ?_; (((repeat (first | with_reducible exact Gr.refl _ | with_reducible assumption | with_reducible refine Gr.drew ?_ | with_reducible refine Gr.alloc ?_ _ | with_reducible refine Gr.trans ?_ (by assumption))); done); done)) | (refine pair_far3 (HKs.out _ ?_) (by simp only; omega) (by simp only; omega) _ _ _; (((repeat (first | with_reducible exact Gr.refl _ | with_reducible assumption | with_reducible refine Gr.drew ?_ | with_reducible refine Gr.alloc ?_ _ | with_reducible refine Gr.trans ?_ (by assumption))); done); done))))
        ((go_at_call 57; ((with_reducible refine (HG.out _ ?_).mono ?_); (focus ((repeat (first | with_reducible exact Gr.refl _ | with_reducible assumption | with_reducible refine Gr.drew ?_ | with_reducible refine Gr.alloc ?_ _ | with_reducible refine Gr.trans ?_ (by assumption))); done)); rintro e' w4 ⟨rfl, g4⟩; refine (fun (hG4 : Gr wr w4) => ?_) ?_; rotate_left; (focus ((repeat (first | with_reducible exact Gr.refl _ | with_reducible assumption | with_reducible refine Gr.drew ?_ | with_reducible refine Gr.alloc ?_ _ | with_reducible refine Gr.trans ?_ (by assumption))); done)); obtain ⟨_, _, ⟨⟨k0, k1, k2⟩, f0, f1, f2⟩, _⟩ := HD.out.gr hG4; have HG4 := Lib.hid hG4; clear hG4)))
      all_goals
        go_wp2_with fail
        refine bodyPost_ret (v := .tuple #[.slice (some ⟨w2.heap.size, 0, none⟩) L.length L.length, .agg #[.int .i64 (gvC Em.r L (dLev (r, g, bb) L)), .int .i64 (gvC Em.g L (dLev (r, g, bb) L)), .int .i64 (gvC Em.b L (dLev (r, g, bb) L))], .int .i64 0]) ?_ rfl ⟨w2.heap.size, rfl, hcells.out _ HG4.out _ _ _⟩
        simp [results, Tryd.results26, go_sem, k0, k1, k2]

set_option maxRecDepth 100000 in
set_option maxHeartbeats 3200000 in
theorem drive_err (v : Value) (L : List Em) (r g bb : Int) (w : World) (hv : EmVal w v L) (hok : EmsOk L) (h : ckAll L ≠ 0) :
    Calls Tryd.prog 26 #[v, .agg #[.int .i64 r, .int .i64 g, .int .i64 bb]] w fun e w' => e = .returned (.tuple #[.slice none 0 0, .agg #[.int .i64 0, .int .i64 0, .int .i64 0], .int .i64 (ckAll L)]) ∧ Bl w w' := by
  have HE := Lib.hid (fun w' (m : Bl w w') => checkEms_all v L w' (hv.bl m) hok)
  have t1 : (ckAll L != 0) = true := by simpa using h
  obtain ⟨o, cap, rfl, _, _⟩ := hv
  generalize ckAll L = X at *
  clear h hok
  have hW : Bl w (((w.alloc (.cells #[.slice o L.length cap] 46)).alloc (.cells #[.int .i64 r, .int .i64 g, .int .i64 bb] 23)).alloc (.cells #[.int .i64 0, .int .i64 0, .int .i64 0] 23)) := (((Bl.refl w).alloc _).alloc _).alloc _
  go_enter Tryd.func26, Tryd.ntmps26
  go_wp2_with fail
  refine (HE.out _ hW).mono ?_
  rintro e w1 ⟨rfl, m1⟩
  obtain ⟨⟨k0, k1, k2⟩, f0, f1, f2⟩ := own3b (n := w.heap.size + 1 + 1) (by simp) m1
  go_wp2_with fail
  refine bodyPost_ret (v := .tuple #[.slice none 0 0, .agg #[.int .i64 0, .int .i64 0, .int .i64 0], .int .i64 X]) ?_ rfl ⟨rfl, set3b (by omega) (hW.trans m1) _ _ _⟩
  simp [results, Tryd.results26, go_sem, k0, k1, k2]

set_option maxRecDepth 100000 in
set_option maxHeartbeats 3200000 in
theorem drive_col (v : Value) (L : List Em) (r g bb : Int) (w : World) (hv : EmVal w v L) (hok : EmsOk L) (h : ckAll L = 0) (hc : isCol r g bb = false) :
    Calls Tryd.prog 26 #[v, .agg #[.int .i64 r, .int .i64 g, .int .i64 bb]] w fun e w' => e = .returned (.tuple #[.slice none 0 0, .agg #[.int .i64 0, .int .i64 0, .int .i64 0], .int .i64 1]) ∧ Bl w w' := by
  have HE := Lib.hid (fun w' (m : Bl w w') => checkEms_all v L w' (hv.bl m) hok)
  rw [h] at HE
  have HC := Lib.hid (fun w' => (show Calls Tryd.prog 29 #[.agg #[.int .i64 r, .int .i64 g, .int .i64 bb]] w' fun e w'' => e = .returned (.int .i64 1) ∧ Gr w' w'' from by
    have := check_col r g bb w'; unfold ckCol at this; rw [hc] at this; exact this))
  obtain ⟨o, cap, rfl, _, _⟩ := hv
  clear h hok hc
  have hW : Bl w (((w.alloc (.cells #[.slice o L.length cap] 46)).alloc (.cells #[.int .i64 r, .int .i64 g, .int .i64 bb] 23)).alloc (.cells #[.int .i64 0, .int .i64 0, .int .i64 0] 23)) := (((Bl.refl w).alloc _).alloc _).alloc _
  go_enter Tryd.func26, Tryd.ntmps26
  go_wp2_with fail
  refine (HE.out _ hW).mono ?_
  rintro e w1 ⟨rfl, m1⟩
  obtain ⟨a1, a2, a3⟩ := (own3b (n := w.heap.size + 1) (by simp) (((Bl.refl ((w.alloc (.cells #[.slice o L.length cap] 46)).alloc (.cells #[.int .i64 r, .int .i64 g, .int .i64 bb] 23))).alloc _).trans m1)).1
  go_wp2_with fail
  refine (HC.out _).mono ?_
  rintro e w2 ⟨rfl, m2⟩
  obtain ⟨⟨k0, k1, k2⟩, f0, f1, f2⟩ := own3b (n := w.heap.size + 1 + 1) (by simp) (m1.trans m2.bl)
  go_wp2_with fail
  refine bodyPost_ret (v := .tuple #[.slice none 0 0, .agg #[.int .i64 0, .int .i64 0, .int .i64 0], .int .i64 1]) ?_ rfl ⟨rfl, set3b (by omega) (hW.trans (m1.trans m2.bl)) _ _ _⟩
  simp [results, Tryd.results26, go_sem, k0, k1, k2]
end Go.Proofs.YtdmpdcggepfaiaaDoor
