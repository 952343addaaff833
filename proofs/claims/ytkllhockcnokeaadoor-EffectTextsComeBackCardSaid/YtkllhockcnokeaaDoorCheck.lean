/- CheckCurve: what is wrong with a curve. -/
import Derived.Test.YtkllhockcnokeaaDoorShape
import Derived.BigQuiet
namespace Go.Proofs.YtkllhockcnokeaaDoor
open Go.RowKit Go.Sort

def outP (x : Int × Int) : Bool := decide (x.1 < 0) || decide (1000 < x.1) || decide (x.2 < 0) || decide (1000 < x.2)
/-- Is a point out of order behind the one ahead of it, from place k on? -/
def inOrder (l : List (Int × Int)) (k : Nat) : Prop := (l[k]?.getD (0, 0)).1 < (l[k + 1]?.getD (0, 0)).1 ∧ (l[k]?.getD (0, 0)).2 ≤ (l[k + 1]?.getD (0, 0)).2
instance (l : List (Int × Int)) (k : Nat) : Decidable (inOrder l k) := by unfold inOrder; exact inferInstance
def ordered (l : List (Int × Int)) : Bool := (List.range (l.length - 1)).all fun k => decide (inOrder l k)
theorem ordered_iff (l : List (Int × Int)) : ordered l = true ↔ ∀ k, k + 1 < l.length → inOrder l k := by
  unfold ordered
  rw [List.all_eq_true]
  constructor
  · intro h k hk
    simpa using h k (List.mem_range.2 (by omega))
  · intro h k hk
    have := List.mem_range.1 hk
    simpa using h k (by omega)
/-- What is wrong with the points of a table. -/
def ckPts (l : List (Int × Int)) : Int :=
  if l.length < 2 then 8 else if 20 < l.length then 2 else if l.any outP then 1 else if l[0]?.getD (0, 0) ≠ (0, 0) ∨ l[l.length - 1]?.getD (0, 0) ≠ (1000, 1000) then 3 else if ordered l then 0 else 7
def ckCurve (k : Int) (l : List (Int × Int)) : Int :=
  if k < 1 ∨ 6 < k then 4 else if k = 6 then ckPts l else if 0 < l.length then 3 else 0

theorem okTab_of (l : List (Int × Int)) (h : ckPts l = 0) : OkTab l := by
  unfold ckPts at h
  by_cases h1 : l.length < 2
  · rw [if_pos h1] at h; omega
  rw [if_neg h1] at h
  by_cases h2 : 20 < l.length
  · rw [if_pos h2] at h; omega
  rw [if_neg h2] at h
  by_cases h3 : l.any outP = true
  · rw [if_pos h3] at h; omega
  rw [if_neg h3] at h
  by_cases h4 : l[0]?.getD (0, 0) ≠ (0, 0) ∨ l[l.length - 1]?.getD (0, 0) ≠ (1000, 1000)
  · rw [if_pos h4] at h; omega
  rw [if_neg h4] at h
  by_cases h5 : ordered l = true
  · have e1 : l[0]?.getD (0, 0) = (0, 0) := Classical.not_not.1 fun hn => h4 (Or.inl hn)
    have e2 : l[l.length - 1]?.getD (0, 0) = (1000, 1000) := Classical.not_not.1 fun hn => h4 (Or.inr hn)
    refine ⟨by omega, by omega, fun i hi => ?_, e1, e2, (ordered_iff l).1 h5⟩
    have h6 : outP (l[i]?.getD (0, 0)) = false := by
      rw [Bool.eq_false_iff]
      intro hn
      apply h3
      rw [List.any_eq_true]
      exact ⟨_, by rw [List.getElem?_eq_getElem hi, Option.getD_some]; exact List.getElem_mem hi, hn⟩
    unfold outP at h6
    simp only [Bool.or_eq_false_iff, decide_eq_false_iff_not] at h6
    omega
  · rw [if_neg h5] at h; omega

/-- Found or not. -/
def PIdx (b : Bool) (w : World) (e : Ending) (w' : World) : Prop := ∃ r : Int, e = .returned (.int .i64 r) ∧ -1 ≤ r ∧ decide (0 ≤ r) = b ∧ Gr w w'

/-- The points of a curve that comes in: none, or a slice. -/
def PtsAny (w : World) (sv : Value) (l : List (Int × Int)) : Prop := (∃ o cap, sv = .slice o 0 cap ∧ l = []) ∨ ∃ b off cap, sv = .slice (some ⟨b, off, none⟩) l.length cap ∧ Pts w b off l ∧ l.length ≤ 9223372036854775807
theorem PtsAny.gr {w w' : World} {sv : Value} {l : List (Int × Int)} (h : PtsAny w sv l) (g : Gr w w') : PtsAny w' sv l := by
  rcases h with h | ⟨b, off, cap, h1, h2, h3⟩
  · exact Or.inl h
  · exact Or.inr ⟨b, off, cap, h1, h2.gr g, h3⟩

theorem curveAt_of {w : World} {k : Int} {l : List (Int × Int)} {sv : Value} (h : PtsAny w sv l) (hk : ckCurve k l = 0) : CurveAt w k l sv := by
  unfold ckCurve at hk
  by_cases h1 : k < 1 ∨ 6 < k
  · rw [if_pos h1] at hk; omega
  rw [if_neg h1] at hk
  refine ⟨by omega, by omega, fun h6 => ?_⟩
  rw [if_pos h6] at hk
  have hT := okTab_of l hk
  rcases h with ⟨_, _, _, rfl⟩ | ⟨b, off, cap, h1, h2, _⟩
  · exact absurd hT.two (by simp)
  · exact ⟨hT, b, off, cap, h1, h2⟩
end Go.Proofs.YtkllhockcnokeaaDoor
