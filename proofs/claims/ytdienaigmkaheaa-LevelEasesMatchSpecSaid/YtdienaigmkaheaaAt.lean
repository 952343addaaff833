/- course, At, Ends. -/
import Derived.Test.YtdienaigmkaheaaCourse
import Derived.Laws.EntriesVeiled
namespace Go.Proofs.Ytdienaigmkaheaa
open Go.RowKit Go.Sort

def PTime (w : World) (G : Int → Int) (e : Ending) (w' : World) : Prop := ∃ v, e = .returned v ∧ TimeFn w' G v ∧ Gr w w'

theorem own7 {w W : World} {a b c d x y z : Value} {t : TypeId} (h : Gr (w.alloc (.cells #[a, b, c, d, x, y, z] t)) W) :
    W.cell? ⟨w.heap.size, 0, none⟩ = some a ∧ W.cell? ⟨w.heap.size, 1, none⟩ = some b ∧ W.cell? ⟨w.heap.size, 2, none⟩ = some c ∧ W.cell? ⟨w.heap.size, 3, none⟩ = some d ∧ W.cell? ⟨w.heap.size, 4, none⟩ = some x ∧ W.cell? ⟨w.heap.size, 5, none⟩ = some y ∧ W.cell? ⟨w.heap.size, 6, none⟩ = some z :=
  ⟨h.cell (by simp), h.cell (by simp), h.cell (by simp), h.cell (by simp), h.cell (by simp), h.cell (by simp), h.cell (by simp)⟩

theorem okFade_of {F T S Dl Tm k : Int} {l : List (Int × Int)} (h : ckFade F T S Dl Tm k l = 0) : OkFade F T S Dl Tm k l ∧ ckCurve k l = 0 := by
  unfold ckFade at h
  by_cases h1 : (isLev F && isLev T) = false
  · rw [if_pos h1] at h; omega
  rw [if_neg h1] at h
  by_cases h2 : (isTm S && isTm Dl && isTm Tm && isTm (S + Dl + Tm)) = false
  · rw [if_pos h2] at h; omega
  rw [if_neg h2] at h
  simp only [Bool.not_eq_false, Bool.and_eq_true, isLev_iff, isTm_iff] at h1 h2
  refine ⟨⟨by omega, by omega, by omega, by omega, by omega, by omega, by omega, by omega, by omega, by omega, by omega, ?_⟩, h⟩
  unfold ckCurve at h
  by_cases h3 : k < 1 ∨ 6 < k
  · rw [if_pos h3] at h; omega
  rw [if_neg h3] at h
  refine ⟨by omega, by omega, fun h6 => ?_⟩
  rw [if_pos h6] at h
  exact okTab_of l h

/-- What At gives at whatever time: the level, and the fault. -/
def atA (F T S Dl Tm k : Int) (l : List (Int × Int)) (t : Int) : Int := if ckFade F T S Dl Tm k l ≠ 0 then 0 else if isTm t then fadeAt F T S Dl Tm k l t else 0
def atX (F T S Dl Tm k : Int) (l : List (Int × Int)) (t : Int) : Int := if ckFade F T S Dl Tm k l ≠ 0 then ckFade F T S Dl Tm k l else if isTm t then 0 else 1
theorem at_bad {F T S Dl Tm k t : Int} {l : List (Int × Int)} (h : atX F T S Dl Tm k l t ≠ 0) : atA F T S Dl Tm k l t = 0 := by
  unfold atX at h
  unfold atA
  by_cases hc : ckFade F T S Dl Tm k l ≠ 0
  · rw [if_pos hc]
  · rw [if_neg hc] at h ⊢
    cases ht : isTm t with
    | true => rw [ht] at h; exact absurd rfl h
    | false => rfl
theorem at_good {F T S Dl Tm k t : Int} {l : List (Int × Int)} (h : atX F T S Dl Tm k l t = 0) : ckFade F T S Dl Tm k l = 0 ∧ isTm t = true ∧ atA F T S Dl Tm k l t = fadeAt F T S Dl Tm k l t := by
  unfold atX at h
  unfold atA
  by_cases hc : ckFade F T S Dl Tm k l ≠ 0
  · rw [if_pos hc] at h; exact absurd h hc
  · rw [if_neg hc] at h ⊢
    cases ht : isTm t with
    | true => exact ⟨by simpa using hc, rfl, rfl⟩
    | false => rw [ht] at h; cases h

end Go.Proofs.Ytdienaigmkaheaa
