/- What emitters give, by the reference. -/
import Derived.Test.YtdmpdcggepfaiaaDoorGiven
import Derived.Test.YtdmpdcggepfaiaaDoorEmA
import Derived.Test.YtdmpdcggepfaiaaDoorCel
import Derived.Test.YtdmpdcggepfaiaaDoorEmR
import Derived.Test.YtdmpdcggepfaiaaDoorFrO
namespace Go.Proofs.YtdmpdcggepfaiaaDoor
open Go.RowKit Go.Sort

theorem rd_eq3 (a b : Int) : rdF a b = rdv a b := by
  unfold rdF rdv
  rw [show a * 2 + 1 * b = 2 * a + b by omega, show b * 2 = 2 * b by omega]

set_option maxHeartbeats 800000 in
theorem parts_ref (r g b : Int) (w : World) :
    Calls Tryd.prog 65 #[.agg #[.int .i64 r, .int .i64 g, .int .i64 b]] w fun e w' => e = .returned (.agg #[.int .i64 r, .int .i64 g, .int .i64 b]) ∧ Gr w w' := by
  go_enter Tryd.func65, Tryd.ntmps65
  go_wp2_with fail
  refine bodyPost_ret (v := .agg #[.int .i64 r, .int .i64 g, .int .i64 b]) ?_ rfl ⟨rfl, ?_⟩
  · simp [results, Tryd.results65, go_sem]
  · exact ((Gr.refl w).alloc _).alloc _

theorem idx0 (x y z : Value) (w : World) : (Instr.index 100 (.agg #[x, y, z]) (.int .i64 0)).run Tryd.prog w = .ok x w := by kernel_rfl
theorem idx1 (x y z : Value) (w : World) : (Instr.index 100 (.agg #[x, y, z]) (.int .i64 1)).run Tryd.prog w = .ok y w := by kernel_rfl
theorem idx2 (x y z : Value) (w : World) : (Instr.index 100 (.agg #[x, y, z]) (.int .i64 2)).run Tryd.prog w = .ok z w := by kernel_rfl

/-- Three cells of the call's own. -/
def Own3 (w : World) (n : Nat) (x y z : Int) : Prop := Cel3 w n x y z ∧ w.frozen? ⟨n, 0, none⟩ = false ∧ w.frozen? ⟨n, 1, none⟩ = false ∧ w.frozen? ⟨n, 2, none⟩ = false
theorem Own3.bl {w w' : World} {n : Nat} {x y z : Int} (h : Own3 w n x y z) (g : Bl w w') : Own3 w' n x y z := by
  have hl : n < w.heap.size := World.block_lt_of_cell? _ _ h.1.1
  exact ⟨h.1.bl g, by rw [g.frozen hl]; exact h.2.1, by rw [g.frozen hl]; exact h.2.2.1, by rw [g.frozen hl]; exact h.2.2.2⟩
theorem Own3.far {w : World} {n : Nat} {x y z : Int} (h : Own3 w n x y z) {p : Addr} (hne : p.block ≠ n) (v : Value) : Own3 (w.setCell p v) n x y z :=
  ⟨h.1.far hne v, by simpa using h.2.1, by simpa using h.2.2.1, by simpa using h.2.2.2⟩
theorem Own3.set0 {w : World} {n : Nat} {x y z : Int} (h : Own3 w n x y z) (v : Int) : Own3 (w.setCell ⟨n, 0, none⟩ (.int .i64 v)) n v y z :=
  ⟨⟨sam h.1.1, (oth (by decide)).trans h.1.2.1, (oth (by decide)).trans h.1.2.2⟩, by simpa using h.2.1, by simpa using h.2.2.1, by simpa using h.2.2.2⟩
theorem Own3.set1 {w : World} {n : Nat} {x y z : Int} (h : Own3 w n x y z) (v : Int) : Own3 (w.setCell ⟨n, 1, none⟩ (.int .i64 v)) n x v z :=
  ⟨⟨(oth (by decide)).trans h.1.1, sam h.1.2.1, (oth (by decide)).trans h.1.2.2⟩, by simpa using h.2.1, by simpa using h.2.2.1, by simpa using h.2.2.2⟩
theorem Own3.set2 {w : World} {n : Nat} {x y z : Int} (h : Own3 w n x y z) (v : Int) : Own3 (w.setCell ⟨n, 2, none⟩ (.int .i64 v)) n x y v :=
  ⟨⟨(oth (by decide)).trans h.1.1, (oth (by decide)).trans h.1.2.1, sam h.1.2.2⟩, by simpa using h.2.1, by simpa using h.2.2.1, by simpa using h.2.2.2⟩
theorem Own3.drewN {w : World} {n : Nat} {x y z : Int} (h : Own3 w n x y z) (k : Nat) : Own3 (w.drewN k) n x y z := h
theorem Own3.drew {w : World} {n : Nat} {x y z : Int} (h : Own3 w n x y z) : Own3 w.drew n x y z := h
theorem Own3.lt {w : World} {n : Nat} {x y z : Int} (h : Own3 w n x y z) : n < w.heap.size := World.block_lt_of_cell? _ _ h.1.1
theorem Own3.new (w : World) (t : TypeId) (x y z : Int) : Own3 (w.alloc (.cells #[.int .i64 x, .int .i64 y, .int .i64 z] t)) w.heap.size x y z :=
  ⟨Cel3.new w t x y z, by simp, by simp, by simp⟩

set_option maxRecDepth 100000 in
set_option maxHeartbeats 3200000 in
theorem given_ref3 (b off cap bl offl capl : Nat) (L : List Em) (ls : Nat → Int) (w : World) (h0 : 0 < L.length) (h12 : L.length ≤ 12) (hL : EmsAt w b off L) (hv : EmsLv L)
    (hl : ∀ i, i < L.length → w.cell? ⟨bl, offl + i, none⟩ = some (.int .i64 (ls i))) (hlv : ∀ i, i < L.length → 0 ≤ ls i ∧ ls i ≤ 65535) :
    Calls Tryd.prog 59 #[.slice (some ⟨b, off, none⟩) L.length cap, .slice (some ⟨bl, offl, none⟩) L.length capl] w fun e w' => e = .returned (.agg #[.int .i64 (gvC Em.r L ls), .int .i64 (gvC Em.g L ls), .int .i64 (gvC Em.b L ls)]) ∧ Bl w w' := by
  have HL := Lib.hid hL
  have HV := Lib.hid hv
  have HLS := Lib.hid hl
  have HLV := Lib.hid hlv
  have hsb := fun (f : Em → Int) (hf : ∀ i, i < L.length → 0 ≤ emC f L i * ls i ∧ emC f L i * ls i ≤ 4294836225) k (hk : k ≤ L.length) => sumN_bd (a := fun i => emC f L i * ls i) k (fun i hi => hf i (by omega))
  have hr : ∀ i, i < L.length → 0 ≤ emC Em.r L i * ls i ∧ emC Em.r L i * ls i ≤ 4294836225 := fun i hi => by rw [emC_at _ _ _ hi]; exact lev_mul (hv L[i] (List.getElem_mem hi)).1 (hlv i hi)
  have hgr : ∀ i, i < L.length → 0 ≤ emC Em.g L i * ls i ∧ emC Em.g L i * ls i ≤ 4294836225 := fun i hi => by rw [emC_at _ _ _ hi]; exact lev_mul (hv L[i] (List.getElem_mem hi)).2.1 (hlv i hi)
  have hbl : ∀ i, i < L.length → 0 ≤ emC Em.b L i * ls i ∧ emC Em.b L i * ls i ≤ 4294836225 := fun i hi => by rw [emC_at _ _ _ hi]; exact lev_mul (hv L[i] (List.getElem_mem hi)).2.2 (hlv i hi)
  have B1 := Lib.hid (hsb Em.r hr)
  have B2 := Lib.hid (hsb Em.g hgr)
  have B3 := Lib.hid (hsb Em.b hbl)
  clear hL hv hl hlv hsb hr hgr hbl
  go_enter Tryd.func59, Tryd.ntmps59
  go_wp2
  go_loopw [14] (fun i wr => ∃ k : Nat, k ≤ L.length ∧ i = .int .i64 k ∧ Own3 wr w.heap.size 0 0 0 ∧ Own3 wr (w.heap.size + 1) (sumN (fun i => emC Em.r L i * ls i) k) (sumN (fun i => emC Em.g L i * ls i) k) (sumN (fun i => emC Em.b L i * ls i) k) ∧ Bl w wr) (fun i _ => L.length - (intOf i).toNat)
  case atStart => exact ⟨0, Nat.zero_le _, rfl, (Own3.new w _ 0 0 0).bl ((Bl.refl _).alloc _), by have := Own3.new (w.alloc (.cells #[.int .i64 0, .int .i64 0, .int .i64 0] 23)) 100 0 0 0; simpa [sumN] using this, ((Bl.refl w).alloc _).alloc _⟩
  case round =>
    obtain ⟨k, hk, rfl, ho1, ho2, hb⟩ := hrel
    by_cases hlt : k < L.length
    · obtain ⟨c0, c1, c2, c3⟩ := (HL.out.bl hb) k hlt
      have s1 := B1.out k hk
      have s2 := B2.out k hk
      have s3 := B3.out k hk
      have hem : ∀ f : Em → Int, emC f L k = f L[k] := fun f => emC_at f L k hlt
      have hnext : Hid (∀ f : Em → Int, sumN (fun i => emC f L i * ls i) (k + 1) = sumN (fun i => emC f L i * ls i) k + f L[k] * ls k) := fun f => by rw [← hem f]; rfl
      have hlk := HLV.out k hlt
      have he := HV.out L[k] (List.getElem_mem hlt)
      have hcl := Lib.hid (fun w' (g : Bl w w') => g.cell (HLS.out k hlt))
      obtain ⟨e, hee⟩ : ∃ e, e = L[k] := ⟨_, rfl⟩
      rw [← hee] at c0 c1 c2 c3 hnext he
      have hn1 := Lib.hid (hnext.out Em.r)
      have hn2 := Lib.hid (hnext.out Em.g)
      have hn3 := Lib.hid (hnext.out Em.b)
      have p1 := lev_mul he.1 hlk
      have p2 := lev_mul he.2.1 hlk
      have p3 := lev_mul he.2.2 hlk
      clear hee hem hnext
      generalize sumN (fun i => emC Em.r L i * ls i) k = R at *
      generalize sumN (fun i => emC Em.g L i * ls i) k = G at *
      generalize sumN (fun i => emC Em.b L i * ls i) k = B at *
      generalize ls k = l at *
      have HP := Lib.hid (fun w => parts_ref e.r e.g e.b w)
      have H1 := Lib.hid ho1
      have H2 := Lib.hid ho2
      clear ho1 ho2
      go_wp2_with fail
      refine (HP.out _).mono ?_
      rintro e' w3 ⟨rfl, g3⟩
      go_wp2_with fail
      have hb3 : Bl w w3 := (hb.alloc _).trans g3.bl
      have o1 := Lib.hid (H1.out.bl (((Bl.refl wr).alloc _).trans g3.bl))
      have o2 := Lib.hid (H2.out.bl (((Bl.refl wr).alloc _).trans g3.bl))
      go_loopw [22] (fun j wq => ∃ m : Nat, m ≤ 3 ∧ j = .int .i64 m ∧ Own3 wq w.heap.size 0 0 0 ∧ Own3 wq (w.heap.size + 1) (if 0 < m then R + e.r * l else R) (if 1 < m then G + e.g * l else G) (if 2 < m then B + e.b * l else B) ∧ Bl w wq) (fun j _ => 3 - (intOf j).toNat)
      case atStart => exact ⟨0, by omega, rfl, o1.out, by simpa using o2.out, hb3⟩
      case round =>
        obtain ⟨m, hm, rfl, q1, q2, hq⟩ := hrel
        have hc := hcl.out _ hq
        have Q1 := Lib.hid q1
        have HQ := Lib.hid hq
        have Q2 := Lib.hid q2
        clear q1 hq
        rcases (show m = 0 ∨ m = 1 ∨ m = 2 ∨ m = 3 by omega) with rfl | rfl | rfl | rfl
        · simp only [Nat.reduceLT, reduceIte] at q2 Q2
          obtain ⟨⟨k0, k1, k2⟩, f0, f1, f2⟩ := q2
          have i0 := idx0 (.int .i64 e.r) (.int .i64 e.g) (.int .i64 e.b)
          go_wp2
          go_region
          all_goals
            go_wp2
            go_roundw
            case rel => exact ⟨1, by omega, rfl, Q1.out.far (by simp only; omega) _, by simpa using (Q2.out.set0 _).drew, HQ.out.setCell (by simp only; omega) _ |>.drew⟩
            case measure => simp [intOf]
        · simp only [Nat.reduceLT, reduceIte] at q2 Q2
          obtain ⟨⟨k0, k1, k2⟩, f0, f1, f2⟩ := q2
          have i1 := idx1 (.int .i64 e.r) (.int .i64 e.g) (.int .i64 e.b)
          go_wp2
          go_region
          all_goals
            go_wp2
            go_roundw
            case rel => exact ⟨2, by omega, rfl, Q1.out.far (by simp only; omega) _, by simpa using (Q2.out.set1 _).drew, HQ.out.setCell (by simp only; omega) _ |>.drew⟩
            case measure => simp [intOf]
        · simp only [Nat.reduceLT, reduceIte] at q2 Q2
          obtain ⟨⟨k0, k1, k2⟩, f0, f1, f2⟩ := q2
          have i2 := idx2 (.int .i64 e.r) (.int .i64 e.g) (.int .i64 e.b)
          go_wp2
          go_region
          all_goals
            go_wp2
            go_roundw
            case rel => exact ⟨3, by omega, rfl, Q1.out.far (by simp only; omega) _, by simpa using (Q2.out.set2 _).drew, HQ.out.setCell (by simp only; omega) _ |>.drew⟩
            case measure => simp [intOf]
        · simp only [Nat.reduceLT, reduceIte] at q2 Q2
          clear q2 hc
          go_wp2
          go_roundw
          case rel => exact ⟨k + 1, by omega, by go_num, Q1.out, by rw [hn1.out, hn2.out, hn3.out]; exact Q2.out, HQ.out⟩
          case measure => simp [intOf]; omega
    · obtain rfl : k = L.length := by omega
      have s1 := B1.out _ hk
      have s2 := B2.out _ hk
      have s3 := B3.out _ hk
      have g1 : Hid (gvC Em.r L ls = min (rdv (sumN (fun i => emC Em.r L i * ls i) L.length) 65535) 65535) := rfl
      have g2 : Hid (gvC Em.g L ls = min (rdv (sumN (fun i => emC Em.g L i * ls i) L.length) 65535) 65535) := rfl
      have g3 : Hid (gvC Em.b L ls = min (rdv (sumN (fun i => emC Em.b L i * ls i) L.length) 65535) 65535) := rfl
      generalize sumN (fun i => emC Em.r L i * ls i) L.length = R at *
      generalize sumN (fun i => emC Em.g L i * ls i) L.length = G at *
      generalize sumN (fun i => emC Em.b L i * ls i) L.length = B at *
      have H1 := Lib.hid ho1
      have H2 := Lib.hid ho2
      have HB := Lib.hid hb
      obtain ⟨⟨k0, k1, k2⟩, f0, f1, f2⟩ := ho2
      clear ho1 hb
      go_wp2
      clear k0 k1 k2 f0 f1 f2
      obtain ⟨wo, rfl⟩ : ∃ wo : World, wo = wr := ⟨_, rfl⟩
      go_loopw [40] (fun j wq => ∃ m : Nat, m ≤ 3 ∧ j = .int .i64 m ∧ Own3 wq w.heap.size 0 0 0 ∧ Own3 wq (w.heap.size + 1) (if 0 < m then min 65535 (rdv R 65535) else R) (if 1 < m then min 65535 (rdv G 65535) else G) (if 2 < m then min 65535 (rdv B 65535) else B) ∧ Bl w wq) (fun j _ => 3 - (intOf j).toNat)
      case atStart => exact ⟨0, by omega, rfl, H1.out, by simpa using H2.out, HB.out⟩
      case round =>
        obtain ⟨m, hm, rfl, q1, q2, hq⟩ := hrel
        have Q1 := Lib.hid q1
        have HQ := Lib.hid hq
        have Q2 := Lib.hid q2
        clear q1 hq
        rcases (show m = 0 ∨ m = 1 ∨ m = 2 ∨ m = 3 by omega) with rfl | rfl | rfl | rfl
        · simp only [Nat.reduceLT, reduceIte] at q2 Q2
          have i0 := idx0 (.int .i64 R) (.int .i64 G) (.int .i64 B)
          clear q2
          go_wp2_with fail
          refine (part_any R 65535 _ (by omega) (by omega) (by omega) (by omega)).mono ?_
          rintro e1 w1 ⟨v1, rfl, h1, m1⟩
          have V1 := Lib.hid h1
          clear h1
          go_wp2_with fail
          refine (round_part v1 R 65535 _ V1.out (by omega) (by omega) (by omega) (by omega)).mono ?_
          rintro e2 w2 ⟨rfl, m2⟩
          rw [rd_eq3]
          have hmin := fun w ts t => run_mn2 ts t 65535 (rdv R 65535) w
          obtain ⟨⟨k0, k1, k2⟩, f0, f1, f2⟩ := Q2.out.bl (m1.trans m2)
          go_wp2
          go_roundw
          case rel => exact ⟨1, by omega, rfl, (Q1.out.bl (m1.trans m2)).far (by simp only; omega) _, by simpa using (Q2.out.bl (m1.trans m2)).set0 _, (HQ.out.trans (m1.trans m2)).setCell (by simp only; omega) _⟩
          case measure => simp [intOf]
        · simp only [Nat.reduceLT, reduceIte] at q2 Q2
          have i1 := idx1 (.int .i64 R) (.int .i64 G) (.int .i64 B)
          clear q2
          go_wp2_with fail
          refine (part_any G 65535 _ (by omega) (by omega) (by omega) (by omega)).mono ?_
          rintro e1 w1 ⟨v1, rfl, h1, m1⟩
          have V1 := Lib.hid h1
          clear h1
          go_wp2_with fail
          refine (round_part v1 G 65535 _ V1.out (by omega) (by omega) (by omega) (by omega)).mono ?_
          rintro e2 w2 ⟨rfl, m2⟩
          rw [rd_eq3]
          have hmin := fun w ts t => run_mn2 ts t 65535 (rdv G 65535) w
          obtain ⟨⟨k0, k1, k2⟩, f0, f1, f2⟩ := Q2.out.bl (m1.trans m2)
          go_wp2
          go_roundw
          case rel => exact ⟨2, by omega, rfl, (Q1.out.bl (m1.trans m2)).far (by simp only; omega) _, by simpa using (Q2.out.bl (m1.trans m2)).set1 _, (HQ.out.trans (m1.trans m2)).setCell (by simp only; omega) _⟩
          case measure => simp [intOf]
        · simp only [Nat.reduceLT, reduceIte] at q2 Q2
          have i2 := idx2 (.int .i64 R) (.int .i64 G) (.int .i64 B)
          clear q2
          go_wp2_with fail
          refine (part_any B 65535 _ (by omega) (by omega) (by omega) (by omega)).mono ?_
          rintro e1 w1 ⟨v1, rfl, h1, m1⟩
          have V1 := Lib.hid h1
          clear h1
          go_wp2_with fail
          refine (round_part v1 B 65535 _ V1.out (by omega) (by omega) (by omega) (by omega)).mono ?_
          rintro e2 w2 ⟨rfl, m2⟩
          rw [rd_eq3]
          have hmin := fun w ts t => run_mn2 ts t 65535 (rdv B 65535) w
          obtain ⟨⟨k0, k1, k2⟩, f0, f1, f2⟩ := Q2.out.bl (m1.trans m2)
          go_wp2
          go_roundw
          case rel => exact ⟨3, by omega, rfl, (Q1.out.bl (m1.trans m2)).far (by simp only; omega) _, by simpa using (Q2.out.bl (m1.trans m2)).set2 _, (HQ.out.trans (m1.trans m2)).setCell (by simp only; omega) _⟩
          case measure => simp [intOf]
        · simp only [Nat.reduceLT, reduceIte] at q2 Q2
          obtain ⟨⟨k0, k1, k2⟩, f0, f1, f2⟩ := q2
          obtain ⟨⟨j0, j1, j2⟩, u0, u1, u2⟩ := Q1.out
          have Z : Hid (gvC Em.r L ls = min 65535 (rdv R 65535) ∧ gvC Em.g L ls = min 65535 (rdv G 65535) ∧ gvC Em.b L ls = min 65535 (rdv B 65535)) := ⟨by rw [g1.out, Int.min_comm], by rw [g2.out, Int.min_comm], by rw [g3.out, Int.min_comm]⟩
          generalize min 65535 (rdv R 65535) = X at *
          generalize min 65535 (rdv G 65535) = Y at *
          generalize min 65535 (rdv B 65535) = T at *
          go_wp2_with fail
          refine bodyPost_ret (v := .agg #[.int .i64 X, .int .i64 Y, .int .i64 T]) ?_ rfl ⟨by rw [Z.out.1, Z.out.2.1, Z.out.2.2], set3b (Nat.le_refl _) HQ.out _ _ _⟩
          simp [results, Tryd.results59, go_sem, j0, j1, j2]
end Go.Proofs.YtdmpdcggepfaiaaDoor
