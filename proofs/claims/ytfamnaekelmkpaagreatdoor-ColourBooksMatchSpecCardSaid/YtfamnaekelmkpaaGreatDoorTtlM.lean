/- Titles: plain mathematics of texts, no program in it. -/
import Derived.WalkKit
import Derived.Lib.SlTrimSet
namespace Go.Proofs.YtfamnaekelmkpaaGreatDoor

/-- A byte that a title may have. -/
def ttlB (c : UInt8) : Bool := decide (32 ≤ c.toNat) && decide (c.toNat ≤ 126)
/-- A title. -/
def isTtl (l : List UInt8) : Bool := l.all ttlB && (!l.isEmpty && (decide (l.length ≤ 60) && decide (Lib.trimS l [32] = l)))
theorem ttlB_iff (c : UInt8) : ttlB c = true ↔ 32 ≤ (c.toNat : Int) ∧ (c.toNat : Int) ≤ 126 := by
  unfold ttlB; simp only [Bool.and_eq_true, decide_eq_true_eq]; omega
theorem isTtl_len {l : List UInt8} (h : isTtl l = true) : l.length ≤ 60 ∧ l ≠ [] ∧ ∀ c ∈ l, ttlB c = true := by
  unfold isTtl at h
  simp only [Bool.and_eq_true, decide_eq_true_eq, List.all_eq_true, Bool.not_eq_true', List.isEmpty_eq_false_iff] at h
  exact ⟨h.2.2.1, h.2.1, h.1⟩
end Go.Proofs.YtfamnaekelmkpaaGreatDoor
