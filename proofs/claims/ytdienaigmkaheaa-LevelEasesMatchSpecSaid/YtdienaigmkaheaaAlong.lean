/- The way of a table: along the straight lines between its points. -/
import Derived.Test.YtdienaigmkaheaaWay
import Derived.Test.YtdienaigmkaheaaBl
import Derived.BigRegion
namespace Go.Proofs.Ytdienaigmkaheaa
open Go.RowKit Go.Sort

/-- The points of a table, as the world holds them. -/
def Pts (w : World) (b off : Nat) (l : List (Int × Int)) : Prop := ∀ i, i < l.length → w.cell? ⟨b, off + i * 2, none⟩ = some (.int .i64 (l[i]?.getD (0, 0)).1) ∧ w.cell? ⟨b, off + i * 2 + 1, none⟩ = some (.int .i64 (l[i]?.getD (0, 0)).2)
theorem Pts.gr {w w' : World} {b off : Nat} {l : List (Int × Int)} (h : Pts w b off l) (g : Gr w w') : Pts w' b off l := fun i hi => ⟨g.cell (h i hi).1, g.cell (h i hi).2⟩
theorem Pts.bl {w w' : World} {b off : Nat} {l : List (Int × Int)} (h : Pts w b off l) (g : Bl w w') : Pts w' b off l := fun i hi => ⟨g.cell (h i hi).1, g.cell (h i hi).2⟩

/-- A right table. -/
structure OkTab (l : List (Int × Int)) : Prop where
  two : 2 ≤ l.length
  most : l.length ≤ 20
  range : ∀ i, i < l.length → 0 ≤ (l[i]?.getD (0, 0)).1 ∧ (l[i]?.getD (0, 0)).1 ≤ 1000 ∧ 0 ≤ (l[i]?.getD (0, 0)).2 ∧ (l[i]?.getD (0, 0)).2 ≤ 1000
  first : l[0]?.getD (0, 0) = (0, 0)
  last : l[l.length - 1]?.getD (0, 0) = (1000, 1000)
  order : ∀ i, i + 1 < l.length → (l[i]?.getD (0, 0)).1 < (l[i + 1]?.getD (0, 0)).1 ∧ (l[i]?.getD (0, 0)).2 ≤ (l[i + 1]?.getD (0, 0)).2

def alN (a b : Int × Int) (p q : Int) : Int := a.2 * (b.1 - a.1) * q + (b.2 - a.2) * (1000 * p - a.1 * q)
def alD (a b : Int × Int) (q : Int) : Int := 1000 * (b.1 - a.1) * q
def tab : Int × Int → List (Int × Int) → Int → Int → Int × Int
  | _, [], _, _ => (0, 1)
  | a, b :: r, p, q => if b.1 * q < 1000 * p then tab b r p q else (alN a b p q, alD a b q)

/-- Where the search of the segment stands. -/
def AlRel (l : List (Int × Int)) (p q : Int) (v : Value) : Prop := ∃ k : Nat, 1 ≤ k ∧ k < l.length ∧ v = .int .i64 k ∧ tab (l[k - 1]?.getD (0, 0)) (l.drop k) p q = tab (l[0]?.getD (0, 0)) (l.drop 1) p q ∧ (2 ≤ k → (l[k - 1]?.getD (0, 0)).1 * q < 1000 * p)

theorem drop_one (l : List (Int × Int)) (k : Nat) (h : k < l.length) : l.drop k = (l[k]?.getD (0, 0)) :: l.drop (k + 1) := by
  rw [List.drop_eq_getElem_cons h, List.getElem?_eq_getElem h, Option.getD_some]

/-- The two ends of the segment. -/
def EndsRel (w : World) (a b : Int × Int) (s8 s9 : Value) (wx : World) : Prop := ∃ ba bb : Nat, s8 = .pointer (some ⟨ba, 0, none⟩) ∧ s9 = .pointer (some ⟨bb, 0, none⟩) ∧ Gr (w.alloc (.cells #[.int .u64 0, .int .u64 0, .int .u64 0, .int .u64 0] 42)) wx ∧
  wx.cell? ⟨ba, 0, none⟩ = some (.int .i64 a.1) ∧ wx.cell? ⟨ba, 1, none⟩ = some (.int .i64 a.2) ∧ wx.cell? ⟨bb, 0, none⟩ = some (.int .i64 b.1) ∧ wx.cell? ⟨bb, 1, none⟩ = some (.int .i64 b.2)

theorem al_bd (ta va tb vb p q : Int) (h1 : 0 ≤ ta) (h2 : ta < tb) (h3 : tb ≤ 1000) (h4 : 0 ≤ va) (h5 : va ≤ vb) (h6 : vb ≤ 1000) (p1 : p ≤ q) (q0 : 1 ≤ q) (q1 : q ≤ 36000000) (ha : ta * q ≤ 1000 * p) :
    0 ≤ tb - ta ∧ tb - ta ≤ 1000 ∧ 0 ≤ ta * q ∧ ta * q ≤ 36000000000 ∧ 0 ≤ va * (tb - ta) ∧ va * (tb - ta) ≤ 1000000 ∧ 0 ≤ va * (tb - ta) * q ∧ va * (tb - ta) * q ≤ 36000000000000 ∧ 0 ≤ (vb - va) * (1000 * p - ta * q) ∧ (vb - va) * (1000 * p - ta * q) ≤ 36000000000000 ∧ 0 ≤ 1000 * (tb - ta) * q ∧ 1000 * (tb - ta) * q ≤ 36000000000000 := by
  have a1 : ta * q ≤ 1000 * q := Int.mul_le_mul_of_nonneg_right (by omega) (by omega)
  have a0 : 0 ≤ ta * q := Int.mul_nonneg h1 (by omega)
  have b0 : 0 ≤ va * (tb - ta) := Int.mul_nonneg h4 (by omega)
  have b1 : va * (tb - ta) ≤ 1000 * 1000 := Int.mul_le_mul (by omega) (by omega) (by omega) (by omega)
  have c0 : 0 ≤ va * (tb - ta) * q := Int.mul_nonneg b0 (by omega)
  have c1 : va * (tb - ta) * q ≤ 1000000 * 36000000 := Int.mul_le_mul (by omega) (by omega) (by omega) (by omega)
  have d0 : 0 ≤ (vb - va) * (1000 * p - ta * q) := Int.mul_nonneg (by omega) (by omega)
  have d1 : (vb - va) * (1000 * p - ta * q) ≤ 1000 * 36000000000 := Int.mul_le_mul (by omega) (by omega) (by omega) (by omega)
  have e0 : 0 ≤ 1000 * (tb - ta) * q := Int.mul_nonneg (by omega) (by omega)
  have e1 : 1000 * (tb - ta) * q ≤ 1000000 * 36000000 := Int.mul_le_mul (by omega) (by omega) (by omega) (by omega)
  omega

set_option maxHeartbeats 1600000 in
theorem along_any (b off cap : Nat) (l : List (Int × Int)) (p q : Int) (w : World) (hP : Pts w b off l) (hT : OkTab l) (p0 : 0 ≤ p) (p1 : p ≤ q) (q0 : 1 ≤ q) (q1 : q ≤ 36000000) :
    Calls Try.prog 51 #[.slice (some ⟨b, off, none⟩) l.length cap, .int .i64 p, .int .i64 q] w (PRa (tab (l[0]?.getD (0, 0)) (l.drop 1) p q).1 (tab (l[0]?.getD (0, 0)) (l.drop 1) p q).2 w) := by
  have HP := Lib.hid hP
  have HT := Lib.hid hT
  have hl2 := hT.two
  have hl20 := hT.most
  have hbw : b < w.heap.size := World.block_lt_of_cell? _ _ (hP 0 (by omega)).1
  clear hP hT
  go_enter Try.func51, Try.ntmps51
  go_wp2_with fail
  go_loop [7] (fun v7 => AlRel l p q v7) (fun v7 => 20 - (intOf v7).toNat)
  case atStart => exact ⟨1, by omega, by omega, rfl, rfl, fun h => by omega⟩
  case round =>
    obtain ⟨k, hk1, hk2, rfl, hT0, hlow⟩ := hrel
    have HT0 := Lib.hid hT0
    have Hlow := Lib.hid hlow
    clear hT0 hlow
    obtain ⟨tb, vb, eb⟩ : ∃ tb vb, l[k]?.getD (0, 0) = (tb, vb) := ⟨_, _, rfl⟩
    obtain ⟨cb1, cb2⟩ := HP.out k hk2
    obtain ⟨tb0, tb1, vb0, vb1⟩ := HT.out.range k hk2
    have EB := Lib.hid eb
    rw [eb] at cb1 cb2 tb0 tb1 vb0 vb1
    simp only at cb1 cb2 tb0 tb1 vb0 vb1
    clear eb
    have m0 : 0 ≤ tb * q := Int.mul_nonneg tb0 (by omega)
    have m1 : tb * q ≤ 1000 * q := Int.mul_le_mul_of_nonneg_right tb1 (by omega)
    by_cases hlt : tb * q < 1000 * p
    · have hk3 : k + 1 < l.length := by
        by_cases h : k + 1 < l.length
        · exact h
        · exfalso
          have h1 := HT.out.last
          rw [show l.length - 1 = k by omega, EB.out] at h1
          have h2 : tb = 1000 := congrArg Prod.fst h1
          rw [h2] at hlt
          omega
      go_wp2_with fail
      go_round
      case rel =>
        refine ⟨k + 1, by omega, hk3, by go_num, ?_, fun _ => ?_⟩
        · have h1 := HT0.out
          rw [drop_one l k hk2, EB.out] at h1
          simp only [tab, if_pos hlt] at h1
          rw [← h1, Nat.add_sub_cancel, EB.out]
        · rw [Nat.add_sub_cancel, EB.out]; exact hlt
      case measure => simp [intOf]; omega
    · obtain ⟨ta, va, ea⟩ : ∃ ta va, l[k - 1]?.getD (0, 0) = (ta, va) := ⟨_, _, rfl⟩
      obtain ⟨ca1, ca2⟩ := HP.out (k - 1) (by omega)
      obtain ⟨ta0, ta1, va0, va1⟩ := HT.out.range (k - 1) (by omega)
      obtain ⟨o1, o2⟩ := HT.out.order (k - 1) (by omega)
      rw [show k - 1 + 1 = k by omega, EB.out] at o1 o2
      rw [ea] at ca1 ca2 ta0 ta1 va0 va1 o1 o2
      simp only at ca1 ca2 ta0 ta1 va0 va1 o1 o2
      have hlo : ta * q ≤ 1000 * p := by
        by_cases h2 : 2 ≤ k
        · have := Hlow.out h2; rw [ea] at this; simp only at this; omega
        · have h3 := HT.out.first
          obtain rfl : k = 1 := by omega
          rw [show 1 - 1 = 0 by omega] at ea
          rw [ea] at h3
          have : ta = 0 := congrArg Prod.fst h3
          rw [this]; omega
      have HA := Lib.hid ea
      have BD := Lib.hid (al_bd ta va tb vb p q ta0 o1 tb1 va0 o2 vb1 p1 q0 q1 hlo)
      have HF : Hid (tab (l[0]?.getD (0, 0)) (l.drop 1) p q = (alN (ta, va) (tb, vb) p q, alD (ta, va) (tb, vb) q)) := by
        have h1 := HT0.out
        rw [drop_one l k hk2, EB.out, ea] at h1
        simp only [tab, if_neg hlt] at h1
        exact h1.symm
      clear ea
      go_upto_region 4 with fail
      go_cut [8, 9] (fun s8 s9 wx => EndsRel w (ta, va) (tb, vb) s8 s9 wx)
      case first =>
        have hk0 : (1 : Int) ≤ (k : Int) := by omega
        have hkl : (k : Int) < (l.length : Int) := by omega
        obtain ⟨m, hm⟩ : ∃ m, m = k - 1 := ⟨_, rfl⟩
        have hkw : IntKind.i64.wrap ((k : Int) - 1) = (m : Int) := by rw [IntWalk.i64_in _ (by omega)]; omega
        rw [← hm] at ca1 ca2
        have hm0 : (0 : Int) ≤ (m : Int) := by omega
        have hml : (m : Int) < (l.length : Int) := by omega
        clear hm
        go_region_held3 (fun w' => w'.cell? ⟨b, off + m * 2, none⟩ = some (.int .i64 ta) ∧ w'.cell? ⟨b, off + m * 2 + 1, none⟩ = some (.int .i64 va) ∧ w'.cell? ⟨b, off + k * 2, none⟩ = some (.int .i64 tb) ∧ w'.cell? ⟨b, off + k * 2 + 1, none⟩ = some (.int .i64 vb))
          (refine ⟨Gr.cell (w := w) ?_ ca1, Gr.cell (w := w) ?_ ca2, Gr.cell (w := w) ?_ cb1, Gr.cell (w := w) ?_ cb2⟩ <;> (repeat (first | with_reducible exact Gr.refl _ | with_reducible refine Gr.drew ?_ | with_reducible refine Gr.alloc ?_ _)))
          (fail)
        all_goals (go_wp2_with fail; go_meet)
        all_goals refine ⟨_, _, rfl, rfl, ?_, ?_, ?_, ?_, ?_⟩
        all_goals first
          | (refine Gr.drew (Gr.alloc (Gr.alloc (Gr.refl _) _) _); done)
          | (rw [World.cell?_drew]; exact cell_alloc_sl _ (own2 (by simp)).1)
          | (rw [World.cell?_drew]; exact cell_alloc_sl _ (own2 (by simp)).2)
          | (rw [World.cell?_drew]; exact (own2 (by simp)).1)
          | (rw [World.cell?_drew]; exact (own2 (by simp)).2)
      case rest =>
        obtain ⟨ba, bb, rfl, rfl, hg, e1, e2, e3, e4⟩ := hcut
        obtain ⟨d1, d2, d3, d4, d5, d6, d7, d8, d9, d10, d11, d12⟩ := BD.out
        clear cb1 cb2 ca1 ca2 hbw HP HT HT0 Hlow EB HA BD
        go_wp2_with fail
        refine (share_any (va * (tb - ta) * q + (vb - va) * (1000 * p - ta * q)) (1000 * (tb - ta) * q) _ (by omega) (by omega) (by omega) (by omega)).mono ?_
        rintro e w2 ⟨nh', nl', dh', dl', rfl, HH', hg'⟩
        have hgg := hg.trans hg'
        obtain ⟨k0, k1, k2, k3⟩ := own4 hgg
        have f0 := own4f hgg 0
        have f1 := own4f hgg 1
        have f2 := own4f hgg 2
        have f3 := own4f hgg 3
        clear e1 e2 e3 e4
        go_wp2_with fail
        refine bodyPost_ret (v := .agg #[.int .u64 nh', .int .u64 nl', .int .u64 dh', .int .u64 dl']) (by simp [results, Try.results51, go_sem, k0, k1, k2, k3]) rfl ⟨_, _, _, _, rfl, by rw [HF.out]; exact HH', ?_⟩
        exact (((((((Gr.refl w).alloc _).trans hgg).setCell (Nat.le_refl _) _).setCell (Nat.le_refl _) _).setCell (Nat.le_refl _) _).setCell (Nat.le_refl _) _)
end Go.Proofs.Ytdienaigmkaheaa
