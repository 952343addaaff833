/- Drive of the reference. -/
import Derived.Test.YtdmpdcggepfaiaaDoorGivF
import Derived.Test.YtdmpdcggepfaiaaDoorDrive
namespace Go.Proofs.YtdmpdcggepfaiaaDoor
open Go.RowKit Go.Sort

theorem Own3.grown {w w' : World} {n : Nat} {x y z : Int} {row : Option Nat} (h : Own3 w n x y z) (g : w.grownBy w' row) (hne : row ≠ some n) : Own3 w' n x y z := by
  have e : w'.heap[n]? = w.heap[n]? := g.block n h.lt (fun e => hne e.symm)
  have c : ∀ i, w'.cell? ⟨n, i, none⟩ = w.cell? ⟨n, i, none⟩ := fun i => World.cell?_of_block e
  have f : ∀ i, w'.frozen? ⟨n, i, none⟩ = w.frozen? ⟨n, i, none⟩ := fun i => World.frozen?_of_block e
  exact ⟨⟨(c 0).trans h.1.1, (c 1).trans h.1.2.1, (c 2).trans h.1.2.2⟩, (f 0).trans h.2.1, (f 1).trans h.2.2.1, (f 2).trans h.2.2.2⟩

theorem row_bl {w w' : World} {base : Nat} {e : TypeId} {size n : Nat} {v : Value} {xs : List Value} (h : w.ownsRow base e size v n xs) (g : Bl w w') : w'.ownsRow base e size v n xs :=
  World.ownsRow.kept (row := none) h ⟨g.os, g.tape, g.output, g.size, fun i hi _ => g.block i hi⟩ (by cases v.ownBlock <;> simp)
theorem row_set {w : World} {base : Nat} {e : TypeId} {size n : Nat} {v : Value} {xs : List Value} (h : w.ownsRow base e size v n xs) {p : Addr} (u : Value) (hp : ∀ g, v.ownBlock = some g → p.block < g) : (w.setCell p u).ownsRow base e size v n xs :=
  World.ownsRow.kept (row := some p.block) h ⟨rfl, rfl, rfl, by simp, fun i hi hne => Below.heap_setCell w p u i (fun e => hne (by rw [e]))⟩ (.inr fun e => by have := hp _ e; omega)

/-- The least level behind m components. -/
def nStep (e : Em) (X : Int × Int × Int) (m : Nat) : Int := if m = 0 then 65535 else if m = 1 then g1 e.r X.1 else if m = 2 then min (g1 e.r X.1) (g1 e.g X.2.1) else gLev e X
theorem g1_pos {x X : Int} (h : 0 < x) : g1 x X = min (X / x) 65535 := by unfold g1; rw [if_neg (by omega)]
theorem g1_zero {X : Int} : g1 0 X = 65535 := by unfold g1; rw [if_pos rfl]

/-- The levels of the first k emitters. -/
def dList (c : Int × Int × Int) (L : List Em) (k : Nat) : List Int := (List.range k).map (dLev c L)
theorem dList_snoc (c : Int × Int × Int) (L : List Em) (k : Nat) : dList c L (k + 1) = dList c L k ++ [dLev c L k] := by unfold dList; rw [List.range_succ, List.map_append]; rfl
theorem dList_len (c : Int × Int × Int) (L : List Em) (k : Nat) : (dList c L k).length = k := by unfold dList; simp

/-- Where the loop over the emitters stands. -/
def DvRelR (w : World) (lb : Nat) (c : Int × Int × Int) (L : List Em) (v i : Value) (wr : World) : Prop := ∃ k : Nat, k ≤ L.length ∧ i = .int .i64 k ∧
  Own3 wr (w.heap.size + 1) 0 0 0 ∧ Own3 wr lb (leftD c L k).1 (leftD c L k).2.1 (leftD c L k).2.2 ∧ wr.ownsRow w.heap.size 3 1 v k ((dList c L k).map (Value.int .i64)) ∧ (∀ g, v.ownBlock = some g → lb < g) ∧ Bl w wr

set_option maxRecDepth 100000 in
set_option maxHeartbeats 6400000 in
theorem drive_okR (b off cap : Nat) (L : List Em) (r g bb : Int) (w : World) (hcap : L.length ≤ cap) (hL : EmsAt w b off L) (hok : EmsOk L) (hck : ckAll L = 0) (hcol : isCol r g bb = true) :
    Calls Tryd.prog 27 #[.slice (some ⟨b, off, none⟩) L.length cap, .agg #[.int .i64 r, .int .i64 g, .int .i64 bb]] w fun e w' => ∃ v, e = .returned (.tuple #[v, .agg #[.int .i64 (gvC Em.r L (dLev (r, g, bb) L)), .int .i64 (gvC Em.g L (dLev (r, g, bb) L)), .int .i64 (gvC Em.b L (dLev (r, g, bb) L))], .int .i64 0]) ∧
      Slc w' v (dList (r, g, bb) L L.length) ∧ Bl w w' := by
  obtain ⟨h0, h12, hlv0⟩ := ckAll_ok hck
  have hlv : EmsLv L := hlv0
  obtain ⟨hr, hg, hb⟩ := isCol_iff.1 hcol
  have HE := Lib.hid (fun w' (m : Bl w w') => (show Calls Tryd.prog 25 #[.slice (some ⟨b, off, none⟩) L.length cap] w' fun e w'' => e = .returned (.int .i64 0) ∧ Bl w' w'' from by
    have := checkEms_ref (.slice (some ⟨b, off, none⟩) L.length cap) L w' ⟨_, _, rfl, by omega, fun _ => ⟨b, off, rfl, hL.bl m⟩⟩ (fun _ _ _ h => by cases h; exact hcap) hok
    rw [hck] at this; exact this))
  have HC := Lib.hid (fun w' => (show Calls Tryd.prog 31 #[.agg #[.int .i64 r, .int .i64 g, .int .i64 bb]] w' fun e w'' => e = .returned (.int .i64 0) ∧ Bl w' w'' from by
    have := check_ref3 r g bb w'; unfold ckCol at this; rw [hcol] at this; exact this))
  have HP := Lib.hid (fun w => parts_ref r g bb w)
  have HL := Lib.hid hL
  have HV := Lib.hid hlv
  have hc0 : Hid ((0 ≤ r ∧ 0 ≤ g ∧ 0 ≤ bb) ∧ (r ≤ 65535 ∧ g ≤ 65535 ∧ bb ≤ 65535)) := ⟨⟨hr.1, hg.1, hb.1⟩, hr.2, hg.2, hb.2⟩
  clear hL hlv hlv0 hcol hck hok
  go_enter Tryd.func27, Tryd.ntmps27
  go_wp2_with fail
  have hW : Bl w ((w.alloc (.cells #[.int .i64 r, .int .i64 g, .int .i64 bb] 23)).alloc (.cells #[.int .i64 0, .int .i64 0, .int .i64 0] 23)) := ((Bl.refl w).alloc _).alloc _
  refine (HE.out _ hW).mono ?_
  rintro e w1 ⟨rfl, m1⟩
  have hK : Hid (∀ w', Bl ((w.alloc (.cells #[.int .i64 r, .int .i64 g, .int .i64 bb] 23)).alloc (.cells #[.int .i64 0, .int .i64 0, .int .i64 0] 23)) w' → Cel3 w' w.heap.size r g bb ∧ Own3 w' (w.heap.size + 1) 0 0 0) := fun w' m =>
    ⟨((Cel3.new w _ r g bb).bl ((Bl.refl _).alloc _)).bl m, by have := (Own3.new (w.alloc (.cells #[.int .i64 r, .int .i64 g, .int .i64 bb] 23)) 23 0 0 0).bl m; simpa using this⟩
  obtain ⟨⟨a0, a1, a2⟩, _⟩ := hK.out _ m1
  go_wp2_with fail
  refine (HC.out _).mono ?_
  rintro e w2 ⟨rfl, m2⟩
  clear a0 a1 a2
  obtain ⟨⟨a0, a1, a2⟩, q1⟩ := hK.out _ (m1.trans m2)
  have hs := q1.lt
  have hs' : w.heap.size < w2.heap.size := by omega
  have Q1 := Lib.hid q1
  have HB := Lib.hid (hW.trans (m1.trans m2))
  clear q1 m1 m2 hW hK
  go_wp2_with fail
  refine (HP.out _).mono ?_
  rintro e w3 ⟨rfl, m3⟩
  have O1 := Lib.hid (Q1.out.bl (((Bl.refl _).alloc _).trans m3.bl))
  have O2 := Lib.hid ((Own3.new w2 100 0 0 0).bl m3.bl)
  have HB3 := Lib.hid ((HB.out.alloc _).trans m3.bl)
  clear m3 a0 a1 a2
  go_wp2_with fail
  go_loopw [34] (fun j wq => ∃ m : Nat, m ≤ 3 ∧ j = .int .i64 m ∧ Own3 wq (w.heap.size + 1) 0 0 0 ∧ Own3 wq w2.heap.size (if 0 < m then 65535 * r else 0) (if 1 < m then 65535 * g else 0) (if 2 < m then 65535 * bb else 0) ∧ Bl w wq) (fun j _ => 3 - (intOf j).toNat)
  case atStart => exact ⟨0, by omega, rfl, O1.out, by simpa using O2.out, HB3.out⟩
  case round =>
    obtain ⟨m, hm, rfl, q1, q2, hq⟩ := hrel
    have Q1 := Lib.hid q1
    have HQ := Lib.hid hq
    have Q2 := Lib.hid q2
    clear q1 hq
    rcases (show m = 0 ∨ m = 1 ∨ m = 2 ∨ m = 3 by omega) with rfl | rfl | rfl | rfl
    · simp only [Nat.reduceLT, reduceIte] at q2 Q2
      obtain ⟨⟨k0, k1, k2⟩, f0, f1, f2⟩ := q2
      have i0 := idx0 (.int .i64 r) (.int .i64 g) (.int .i64 bb)
      have hc := hc0.out
      have w0 : IntKind.i64.wrap (r * 65535) = 65535 * r := by rw [Int.mul_comm]; exact IntWalk.i64_in _ (by omega)
      clear hc
      go_wp2
      go_roundw
      case rel => exact ⟨1, by omega, rfl, Q1.out.far (by simp only; omega) _, by simpa using Q2.out.set0 _, HQ.out.setCell (by simp only; omega) _⟩
      case measure => simp [intOf]
    · simp only [Nat.reduceLT, reduceIte] at q2 Q2
      obtain ⟨⟨k0, k1, k2⟩, f0, f1, f2⟩ := q2
      have i1 := idx1 (.int .i64 r) (.int .i64 g) (.int .i64 bb)
      have hc := hc0.out
      have w0 : IntKind.i64.wrap (g * 65535) = 65535 * g := by rw [Int.mul_comm]; exact IntWalk.i64_in _ (by omega)
      clear hc
      go_wp2
      go_roundw
      case rel => exact ⟨2, by omega, rfl, Q1.out.far (by simp only; omega) _, by simpa using Q2.out.set1 _, HQ.out.setCell (by simp only; omega) _⟩
      case measure => simp [intOf]
    · simp only [Nat.reduceLT, reduceIte] at q2 Q2
      obtain ⟨⟨k0, k1, k2⟩, f0, f1, f2⟩ := q2
      have i2 := idx2 (.int .i64 r) (.int .i64 g) (.int .i64 bb)
      have hc := hc0.out
      have w0 : IntKind.i64.wrap (bb * 65535) = 65535 * bb := by rw [Int.mul_comm]; exact IntWalk.i64_in _ (by omega)
      clear hc
      go_wp2
      go_roundw
      case rel => exact ⟨3, by omega, rfl, Q1.out.far (by simp only; omega) _, by simpa using Q2.out.set2 _, HQ.out.setCell (by simp only; omega) _⟩
      case measure => simp [intOf]
    · simp only [Nat.reduceLT, reduceIte] at q2 Q2
      clear q2
      have hs2 : w.heap.size + 1 < w2.heap.size := hs
      go_wp2
      obtain ⟨wo, rfl⟩ : ∃ wo : World, wo = wr := ⟨_, rfl⟩
      go_loopw [12, 45] (fun v i wr => DvRelR w w2.heap.size (r, g, bb) L v i wr) (fun _ i _ => L.length - (intOf i).toNat)
      case atStart => exact ⟨0, Nat.zero_le _, rfl, Q1.out, Q2.out, World.ownsRow_nil _ _ _ _, (fun g h => by cases h), HQ.out⟩
      case round =>
        obtain ⟨k, hk, rfl, q1, q2, ho, hlg, hq⟩ := hrel
        clear O1 O2 HB3 Q1 HQ Q2
        have Q1 := Lib.hid q1
        have HQ := Lib.hid hq
        have Q2 := Lib.hid q2
        have HO := Lib.hid ho
        have HG := Lib.hid hlg
        clear q1 q2 ho hlg
        by_cases hlt : k < L.length
        · obtain ⟨c0, c1, c2, c3⟩ := (HL.out.bl hq) k hlt
          obtain ⟨e, he⟩ : ∃ e, e = L[k] := ⟨_, rfl⟩
          have hX := left_le (c := (r, g, bb)) HV.out hc0.out.1 hc0.out.2 k (by omega)
          have hev := HV.out L[k] (List.getElem_mem hlt)
          have hdl : Hid (gLev e (leftD (r, g, bb) L k) = dLev (r, g, bb) L k) := by show _ = _; rw [he, dLev_at _ _ _ hlt]
          have hln : Hid (leftD (r, g, bb) L (k + 1) = ((leftD (r, g, bb) L k).1 - e.r * dLev (r, g, bb) L k, (leftD (r, g, bb) L k).2.1 - e.g * dLev (r, g, bb) L k, (leftD (r, g, bb) L k).2.2 - e.b * dLev (r, g, bb) L k)) := by show _ = _; rw [he, leftD_at _ _ _ hlt]
          rw [← he] at c0 c1 c2 c3 hev
          clear he
          have HPe := Lib.hid (fun w => parts_ref e.r e.g e.b w)
          have hne2 : w.heap.size + 1 ≠ wr.heap.size := by have := Q1.out.lt; omega
          obtain ⟨wk, hwk⟩ : ∃ wk : World, wk = wr := ⟨_, rfl⟩
          subst hwk
          have hne3 : w2.heap.size < wk.heap.size := Q2.out.lt
          have HOk := Lib.hid (fun w' (m : Bl wk w') => row_bl HO.out m)
          go_wp2_with fail
          refine (HPe.out _).mono ?_
          rintro e1 w3 ⟨rfl, g3⟩
          have Q1a := Lib.hid (Q1.out.bl (((Bl.refl _).alloc _).trans g3.bl))
          have Q2a := Lib.hid (Q2.out.bl (((Bl.refl _).alloc _).trans g3.bl))
          have HQa := Lib.hid ((hq.alloc _).trans g3.bl)
          have hgrow : Hid (Bl wk w3) := ((Bl.refl _).alloc _).trans g3.bl
          have hem : Hid (Cel4 w3 wk.heap.size e) := (Cel4.new wk _ e).bl g3.bl
          clear c0 c1 c2 c3 g3
          generalize leftD (r, g, bb) L k = X at *
          obtain ⟨⟨x0, x0'⟩, ⟨x1, x1'⟩, ⟨x2, x2'⟩⟩ := hX
          have G0 := g1_ok (X := X.1) hev.1.1 x0
          have G1 := g1_ok (X := X.2.1) hev.2.1.1 x1
          have G2 := g1_ok (X := X.2.2) hev.2.2.1 x2
          go_wp2_with fail
          go_loopw [15, 52] (fun n j wq => ∃ m : Nat, m ≤ 3 ∧ j = .int .i64 m ∧ n = .int .i64 (nStep e X m) ∧ wq = w3) (fun _ j _ => 3 - (intOf j).toNat)
          case atStart => exact ⟨0, by omega, rfl, rfl, rfl⟩
          case round =>
            obtain ⟨m, hm, rfl, rfl, rfl⟩ := hrel
            obtain ⟨⟨k0, k1, k2⟩, f0, f1, f2⟩ := Q2a.out
            obtain ⟨d0, d1, d2, d3⟩ := hem.out
            rcases (show m = 0 ∨ m = 1 ∨ m = 2 ∨ m = 3 by omega) with rfl | rfl | rfl | rfl
            · have i0 := idx0 (.int .i64 e.r) (.int .i64 e.g) (.int .i64 e.b)
              rcases (show e.r = 0 ∨ 0 < e.r by omega) with z | z
              · have hn : Hid (nStep e X 1 = nStep e X 0) := by
                  show _ = _; have := g1_zero (X := X.1); rw [← z] at this; unfold nStep gLev mn3; simp only [Nat.reduceEqDiff, reduceIte, this]; (try omega)
                have z' : ¬ 0 < e.r := by omega
                clear z
                go_wp2
                go_roundw
                case rel => exact ⟨1, by omega, rfl, by rw [hn.out], trivial⟩
                case measure => simp [intOf]
              · have hn : Hid (nStep e X 1 = min (nStep e X 0) (X.1 / e.r)) := by
                  show _ = _; have := g1_pos (X := X.1) z; unfold nStep gLev mn3; simp only [Nat.reduceEqDiff, reduceIte, this]; (try omega)
                have hq : IntKind.i64.wrap ((X.1).tdiv e.r) = X.1 / e.r := IntWalk.i64_quo _ _ (by omega)
                have hmin := fun w ts t => run_mn2 ts t (nStep e X 0) (X.1 / e.r) w
                go_wp2
                go_roundw
                case rel => exact ⟨1, by omega, rfl, by rw [hn.out], trivial⟩
                case measure => simp [intOf]
            · have i1 := idx1 (.int .i64 e.r) (.int .i64 e.g) (.int .i64 e.b)
              rcases (show e.g = 0 ∨ 0 < e.g by omega) with z | z
              · have hn : Hid (nStep e X 2 = nStep e X 1) := by
                  show _ = _; have := g1_zero (X := X.2.1); rw [← z] at this; unfold nStep gLev mn3; simp only [Nat.reduceEqDiff, reduceIte, this]; (try omega)
                have z' : ¬ 0 < e.g := by omega
                clear z
                go_wp2
                go_roundw
                case rel => exact ⟨2, by omega, rfl, by rw [hn.out], trivial⟩
                case measure => simp [intOf]
              · have hn : Hid (nStep e X 2 = min (nStep e X 1) (X.2.1 / e.g)) := by
                  show _ = _; have := g1_pos (X := X.2.1) z; unfold nStep gLev mn3; simp only [Nat.reduceEqDiff, reduceIte, this]; (try omega)
                have hq : IntKind.i64.wrap ((X.2.1).tdiv e.g) = X.2.1 / e.g := IntWalk.i64_quo _ _ (by omega)
                have hmin := fun w ts t => run_mn2 ts t (nStep e X 1) (X.2.1 / e.g) w
                go_wp2
                go_roundw
                case rel => exact ⟨2, by omega, rfl, by rw [hn.out], trivial⟩
                case measure => simp [intOf]
            · have i2 := idx2 (.int .i64 e.r) (.int .i64 e.g) (.int .i64 e.b)
              rcases (show e.b = 0 ∨ 0 < e.b by omega) with z | z
              · have hn : Hid (nStep e X 3 = nStep e X 2) := by
                  show _ = _; have := g1_zero (X := X.2.2); rw [← z] at this; unfold nStep gLev mn3; simp only [Nat.reduceEqDiff, reduceIte, this]; (try omega)
                have z' : ¬ 0 < e.b := by omega
                clear z
                go_wp2
                go_roundw
                case rel => exact ⟨3, by omega, rfl, by rw [hn.out], trivial⟩
                case measure => simp [intOf]
              · have hn : Hid (nStep e X 3 = min (nStep e X 2) (X.2.2 / e.b)) := by
                  show _ = _; have := g1_pos (X := X.2.2) z; unfold nStep gLev mn3; simp only [Nat.reduceEqDiff, reduceIte, this]; (try omega)
                have hq : IntKind.i64.wrap ((X.2.2).tdiv e.b) = X.2.2 / e.b := IntWalk.i64_quo _ _ (by omega)
                have hmin := fun w ts t => run_mn2 ts t (nStep e X 2) (X.2.2 / e.b) w
                go_wp2
                go_roundw
                case rel => exact ⟨3, by omega, rfl, by rw [hn.out], trivial⟩
                case measure => simp [intOf]
            · have hn3 : Hid (nStep e X 3 = dLev (r, g, bb) L k) := hdl.out
              have hnb : 0 ≤ nStep e X 3 ∧ nStep e X 3 ≤ 65535 := by unfold nStep gLev mn3; simp only [Nat.reduceEqDiff, reduceIte]; omega
              clear k0 k1 k2 f0 f1 f2
              generalize nStep e X 3 = n at *
              go_wp2_with fail
              refine (HPe.out _).mono ?_
              rintro e1 w4 ⟨rfl, g4⟩
              have Q1b := Lib.hid (Q1a.out.bl g4.bl)
              have Q2b := Lib.hid (Q2a.out.bl g4.bl)
              have HQb := Lib.hid (HQa.out.trans g4.bl)
              have hgrow2 : Hid (Bl wk w4) := hgrow.out.trans g4.bl
              have p1 := lev_mul hev.1 hnb
              have p2 := lev_mul hev.2.1 hnb
              have p3 := lev_mul hev.2.2 hnb
              clear d0 d1 d2 d3 g4
              go_wp2_with fail
              go_loopw [69] (fun j wq => ∃ m : Nat, m ≤ 3 ∧ j = .int .i64 m ∧ Own3 wq (w.heap.size + 1) 0 0 0 ∧ Own3 wq w2.heap.size (if 0 < m then X.1 - e.r * n else X.1) (if 1 < m then X.2.1 - e.g * n else X.2.1) (if 2 < m then X.2.2 - e.b * n else X.2.2) ∧ Bl w wq ∧ wq.ownsRow w.heap.size 3 1 u12 k ((dList (r, g, bb) L k).map (Value.int .i64))) (fun j _ => 3 - (intOf j).toNat)
              case atStart => exact ⟨0, by omega, rfl, Q1b.out, by simpa using Q2b.out, HQb.out, HOk.out _ hgrow2.out⟩
              case round =>
                obtain ⟨m, hm, rfl, q1, q2, hq, ho⟩ := hrel
                have Q1 := Lib.hid q1
                have HQ := Lib.hid hq
                have Q2 := Lib.hid q2
                have HO2 := Lib.hid ho
                clear q1 hq ho
                rcases (show m = 0 ∨ m = 1 ∨ m = 2 ∨ m = 3 by omega) with rfl | rfl | rfl | rfl
                · simp only [Nat.reduceLT, reduceIte] at q2 Q2
                  obtain ⟨⟨k0, k1, k2⟩, f0, f1, f2⟩ := q2
                  have i0 := idx0 (.int .i64 e.r) (.int .i64 e.g) (.int .i64 e.b)
                  go_wp2
                  go_roundw
                  case rel => exact ⟨1, by omega, rfl, Q1.out.far (by simp only; omega) _, by simpa using Q2.out.set0 _, HQ.out.setCell (by simp only; omega) _, row_set HO2.out _ HG.out⟩
                  case measure => simp [intOf]
                · simp only [Nat.reduceLT, reduceIte] at q2 Q2
                  obtain ⟨⟨k0, k1, k2⟩, f0, f1, f2⟩ := q2
                  have i1 := idx1 (.int .i64 e.r) (.int .i64 e.g) (.int .i64 e.b)
                  go_wp2
                  go_roundw
                  case rel => exact ⟨2, by omega, rfl, Q1.out.far (by simp only; omega) _, by simpa using Q2.out.set1 _, HQ.out.setCell (by simp only; omega) _, row_set HO2.out _ HG.out⟩
                  case measure => simp [intOf]
                · simp only [Nat.reduceLT, reduceIte] at q2 Q2
                  obtain ⟨⟨k0, k1, k2⟩, f0, f1, f2⟩ := q2
                  have i2 := idx2 (.int .i64 e.r) (.int .i64 e.g) (.int .i64 e.b)
                  go_wp2
                  go_roundw
                  case rel => exact ⟨3, by omega, rfl, Q1.out.far (by simp only; omega) _, by simpa using Q2.out.set2 _, HQ.out.setCell (by simp only; omega) _, row_set HO2.out _ HG.out⟩
                  case measure => simp [intOf]
                · simp only [Nat.reduceLT, reduceIte] at q2 Q2
                  clear q2
                  go_wp2_with (at_builtin; refine app_int_at Tryd.underlying47 info_i rfl _ _ rfl w wr _ k (dList (r, g, bb) L k) n HO2.out rfl rfl (by omega) HQ.out ?_; intro v' w5 hown' hbl' hgr hat)
                  go_roundw
                  case rel =>
                    repeat apply Exists.intro
                    refine ⟨?_, rfl⟩
                    exact ⟨k + 1, by omega, by go_num, Q1.out.grown hgr (fun e => by have := HG.out _ e; omega), by rw [hln.out, ← hn3.out]; exact Q2.out.grown hgr (fun e => by have := HG.out _ e; omega), by rw [dList_snoc, ← hn3.out]; exact hown', (fun g' h' => by rcases hat with h | h <;> rw [h] at h' <;> first | exact HG.out _ h' | (cases h'; have := Q2.out.lt; omega)), hbl'⟩
                  case measure => simp [intOf]; omega
        · obtain rfl : k = L.length := by omega
          have hsl := slc_own HO.out
          rcases hsl.open with ⟨hnil, _⟩ | ⟨bl, offl, capl, rfl, _, hlc, hlc2, hcells⟩
          · have := dList_len (r, g, bb) L L.length; rw [hnil] at this; simp at this; omega
          · rw [dList_len] at hlc hcells ⊢
            have HG2 := Lib.hid (given_ref3 b off cap bl offl capl L (dLev (r, g, bb) L) wr h0 h12 (HL.out.bl hq) HV.out (fun i hi => by rw [hcells i hi]; simp [dList, hi]) (fun i hi => dLev_ok (c := (r, g, bb)) HV.out hc0.out.1 i))
            have hbl : w2.heap.size < bl := HG.out bl rfl
            have HCl := Lib.hid hcells
            obtain ⟨A, hA⟩ : ∃ A, A = gvC Em.r L (dLev (r, g, bb) L) := ⟨_, rfl⟩
            obtain ⟨B, hB⟩ : ∃ A, A = gvC Em.g L (dLev (r, g, bb) L) := ⟨_, rfl⟩
            obtain ⟨C, hC⟩ : ∃ A, A = gvC Em.b L (dLev (r, g, bb) L) := ⟨_, rfl⟩
            rw [← hA, ← hB, ← hC] at HG2
            have HA := Lib.hid hA
            have HB' := Lib.hid hB
            have HC' := Lib.hid hC
            have HQ6 := Lib.hid hq
            clear hcells hsl HO HG hA hB hC hq
            go_wp2_with fail
            refine HG2.out.mono ?_
            rintro e6 w6 ⟨rfl, m6⟩
            obtain ⟨⟨k0, k1, k2⟩, f0, f1, f2⟩ := Q1.out.bl m6
            go_wp2_with fail
            refine bodyPost_ret (v := .tuple #[.slice (some ⟨bl, offl, none⟩) L.length capl, .agg #[.int .i64 A, .int .i64 B, .int .i64 C], .int .i64 0]) ?_ rfl ⟨_, by rw [HA.out, HB'.out, HC'.out], ?_, set3b (by omega) (HQ6.out.trans m6) _ _ _⟩
            · simp [results, Tryd.results27, go_sem, k0, k1, k2]
            · have := Slc.mk (w := (((w6.setCell ⟨w.heap.size + 1, 0, none⟩ (.int .i64 A)).setCell ⟨w.heap.size + 1, 1, none⟩ (.int .i64 B)).setCell ⟨w.heap.size + 1, 2, none⟩ (.int .i64 C))) (b := bl) (off := offl) (cap := capl) (xs := dList (r, g, bb) L L.length) (by rw [dList_len]; exact hlc) (by assumption) (fun i hi => by
                rw [dList_len] at hi
                have hne : w.heap.size + 1 ≠ bl := by omega
                exact cell_far (cell_far (cell_far (m6.cell (HCl.out i hi)) (by simp only; exact hne)) (by simp only; exact hne)) (by simp only; exact hne))
              rwa [dList_len] at this
end Go.Proofs.YtdmpdcggepfaiaaDoor
