/- The inverse of a curve that keeps the rules keeps them. -/
import Derived.Test.YtdienaigmkaheaaInvA
namespace Go.Proofs.Ytdienaigmkaheaa
open Go.RowKit

theorem okc {k : Int} {l : List (Int × Int)} (h : ckCurve k l = 0) : OkCurve k l := ⟨(ck_kind h).1, (ck_kind h).2, fun e => by subst e; exact ck_tab h⟩
theorem ckPts_of {l : List (Int × Int)} (h : OkTab l) : ckPts l = 0 := by
  unfold ckPts
  rw [if_neg (by have := h.two; omega), if_neg (by have := h.most; omega), if_neg, if_neg, if_pos ((ordered_iff l).2 h.order)]
  · rw [h.first, h.last]
    simp
  · intro hn
    obtain ⟨x, hx, ho⟩ := List.any_eq_true.1 hn
    obtain ⟨i, hi, rfl⟩ := List.mem_iff_getElem.1 hx
    have := h.range i hi
    rw [List.getElem?_eq_getElem hi, Option.getD_some] at this
    unfold outP at ho
    simp only [Bool.or_eq_true, decide_eq_true_eq] at ho
    omega
theorem ck_inv {k : Int} {l : List (Int × Int)} (h : ckCurve k l = 0) (h5 : k ≠ 5) : ckCurve (invK k) (if k = 6 then invL l else []) = 0 := by
  obtain ⟨k1, k6⟩ := ck_kind h
  by_cases h6 : k = 6
  · subst h6
    exact ckPts_of (inv_ok (ck_tab h))
  · rw [if_neg h6]
    have hk : k = 1 ∨ k = 2 ∨ k = 3 ∨ k = 4 := by omega
    rcases hk with rfl | rfl | rfl | rfl <;> decide

end Go.Proofs.Ytdienaigmkaheaa
