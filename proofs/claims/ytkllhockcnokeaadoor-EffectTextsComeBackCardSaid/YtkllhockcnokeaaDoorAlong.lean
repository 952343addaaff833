/- The way of a table: along the straight lines between its points. -/
import Derived.Test.YtkllhockcnokeaaDoorWay
import Derived.Test.YtkllhockcnokeaaDoorBl
import Derived.BigRegion
namespace Go.Proofs.YtkllhockcnokeaaDoor
open Go.RowKit Go.Sort

/-- The points of a table, as the world holds them. -/
def Pts (w : World) (b off : Nat) (l : List (Int × Int)) : Prop := ∀ i, i < l.length → w.cell? ⟨b, off + i * 2, none⟩ = some (.int .i64 (l[i]?.getD (0, 0)).1) ∧ w.cell? ⟨b, off + i * 2 + 1, none⟩ = some (.int .i64 (l[i]?.getD (0, 0)).2)
theorem Pts.gr {w w' : World} {b off : Nat} {l : List (Int × Int)} (h : Pts w b off l) (g : Gr w w') : Pts w' b off l := fun i hi => ⟨g.cell (h i hi).1, g.cell (h i hi).2⟩
theorem Pts.bl {w w' : World} {b off : Nat} {l : List (Int × Int)} (h : Pts w b off l) (g : Bl w w') : Pts w' b off l := fun i hi => ⟨g.cell (h i hi).1, g.cell (h i hi).2⟩

/-- A right table. -/
structure OkTab (l : List (Int × Int)) : Prop where
  two : 2 ≤ l.length
  most : l.length ≤ 20
  range : ∀ i, i < l.length → 0 ≤ (l[i]?.getD (0, 0)).1 ∧ (l[i]?.getD (0, 0)).1 ≤ 1000 ∧ 0 ≤ (l[i]?.getD (0, 0)).2 ∧ (l[i]?.getD (0, 0)).2 ≤ 1000
  first : l[0]?.getD (0, 0) = (0, 0)
  last : l[l.length - 1]?.getD (0, 0) = (1000, 1000)
  order : ∀ i, i + 1 < l.length → (l[i]?.getD (0, 0)).1 < (l[i + 1]?.getD (0, 0)).1 ∧ (l[i]?.getD (0, 0)).2 ≤ (l[i + 1]?.getD (0, 0)).2

def alN (a b : Int × Int) (p q : Int) : Int := a.2 * (b.1 - a.1) * q + (b.2 - a.2) * (1000 * p - a.1 * q)
def alD (a b : Int × Int) (q : Int) : Int := 1000 * (b.1 - a.1) * q
def tab : Int × Int → List (Int × Int) → Int → Int → Int × Int
  | _, [], _, _ => (0, 1)
  | a, b :: r, p, q => if b.1 * q < 1000 * p then tab b r p q else (alN a b p q, alD a b q)

/-- Where the search of the segment stands. -/
def AlRel (l : List (Int × Int)) (p q : Int) (v : Value) : Prop := ∃ k : Nat, 1 ≤ k ∧ k < l.length ∧ v = .int .i64 k ∧ tab (l[k - 1]?.getD (0, 0)) (l.drop k) p q = tab (l[0]?.getD (0, 0)) (l.drop 1) p q ∧ (2 ≤ k → (l[k - 1]?.getD (0, 0)).1 * q < 1000 * p)

theorem drop_one (l : List (Int × Int)) (k : Nat) (h : k < l.length) : l.drop k = (l[k]?.getD (0, 0)) :: l.drop (k + 1) := by
  rw [List.drop_eq_getElem_cons h, List.getElem?_eq_getElem h, Option.getD_some]

/-- The two ends of the segment. -/
def EndsRel (w : World) (a b : Int × Int) (s8 s9 : Value) (wx : World) : Prop := ∃ ba bb : Nat, s8 = .pointer (some ⟨ba, 0, none⟩) ∧ s9 = .pointer (some ⟨bb, 0, none⟩) ∧ Gr (w.alloc (.cells #[.int .u64 0, .int .u64 0, .int .u64 0, .int .u64 0] 63)) wx ∧
  wx.cell? ⟨ba, 0, none⟩ = some (.int .i64 a.1) ∧ wx.cell? ⟨ba, 1, none⟩ = some (.int .i64 a.2) ∧ wx.cell? ⟨bb, 0, none⟩ = some (.int .i64 b.1) ∧ wx.cell? ⟨bb, 1, none⟩ = some (.int .i64 b.2)

theorem al_bd (ta va tb vb p q : Int) (h1 : 0 ≤ ta) (h2 : ta < tb) (h3 : tb ≤ 1000) (h4 : 0 ≤ va) (h5 : va ≤ vb) (h6 : vb ≤ 1000) (p1 : p ≤ q) (q0 : 1 ≤ q) (q1 : q ≤ 36000000) (ha : ta * q ≤ 1000 * p) :
    0 ≤ tb - ta ∧ tb - ta ≤ 1000 ∧ 0 ≤ ta * q ∧ ta * q ≤ 36000000000 ∧ 0 ≤ va * (tb - ta) ∧ va * (tb - ta) ≤ 1000000 ∧ 0 ≤ va * (tb - ta) * q ∧ va * (tb - ta) * q ≤ 36000000000000 ∧ 0 ≤ (vb - va) * (1000 * p - ta * q) ∧ (vb - va) * (1000 * p - ta * q) ≤ 36000000000000 ∧ 0 ≤ 1000 * (tb - ta) * q ∧ 1000 * (tb - ta) * q ≤ 36000000000000 := by
  have a1 : ta * q ≤ 1000 * q := Int.mul_le_mul_of_nonneg_right (by omega) (by omega)
  have a0 : 0 ≤ ta * q := Int.mul_nonneg h1 (by omega)
  have b0 : 0 ≤ va * (tb - ta) := Int.mul_nonneg h4 (by omega)
  have b1 : va * (tb - ta) ≤ 1000 * 1000 := Int.mul_le_mul (by omega) (by omega) (by omega) (by omega)
  have c0 : 0 ≤ va * (tb - ta) * q := Int.mul_nonneg b0 (by omega)
  have c1 : va * (tb - ta) * q ≤ 1000000 * 36000000 := Int.mul_le_mul (by omega) (by omega) (by omega) (by omega)
  have d0 : 0 ≤ (vb - va) * (1000 * p - ta * q) := Int.mul_nonneg (by omega) (by omega)
  have d1 : (vb - va) * (1000 * p - ta * q) ≤ 1000 * 36000000000 := Int.mul_le_mul (by omega) (by omega) (by omega) (by omega)
  have e0 : 0 ≤ 1000 * (tb - ta) * q := Int.mul_nonneg (by omega) (by omega)
  have e1 : 1000 * (tb - ta) * q ≤ 1000000 * 36000000 := Int.mul_le_mul (by omega) (by omega) (by omega) (by omega)
  omega

end Go.Proofs.YtkllhockcnokeaaDoor
