/- Names: plain mathematics of texts, no program in it. -/
import Derived.WalkKit
import Derived.Lib.SlTrimSet
namespace Go.Proofs.YtcidldomnifdeaaDoor

/-- a to z, 0 to 9, the hyphen. -/
def plainB (c : UInt8) : Bool := (decide (97 ≤ c.toNat) && decide (c.toNat ≤ 122)) || (decide (48 ≤ c.toNat) && decide (c.toNat ≤ 57)) || c.toNat == 45
def plainL : List UInt8 := [97, 98, 99, 100, 101, 102, 103, 104, 105, 106, 107, 108, 109, 110, 111, 112, 113, 114, 115, 116, 117, 118, 119, 120, 121, 122, 48, 49, 50, 51, 52, 53, 54, 55, 56, 57, 45]
theorem plain_mem (c : UInt8) : plainL.contains c = plainB c := by
  have h : ∀ n, n < 256 → plainL.contains (UInt8.ofNat n) = plainB (UInt8.ofNat n) := by decide +kernel
  have := h c.toNat c.toNat_lt
  simpa using this
/-- A row of a to z, 0 to 9 and hyphens, of at least one byte. -/
def isPl (l : List UInt8) : Bool := !l.isEmpty && l.all plainB
/-- A name. -/
def isNm (l : List UInt8) : Bool := decide (l.length ≤ 20) && isPl l && decide (97 ≤ (l.headD 0).toNat) && decide ((l.headD 0).toNat ≤ 122)

theorem dropWhile_head {α : Type} (p : α → Bool) : ∀ (l : List α) (x : α) (t : List α), l.dropWhile p = x :: t → p x = false
  | [], _, _, h => by cases h
  | a :: l, x, t, h => by
    rw [List.dropWhile_cons] at h
    split at h
    · exact dropWhile_head p l x t h
    · cases h; exact Bool.eq_false_iff.2 ‹_›
theorem dropWhile_nil {α : Type} (p : α → Bool) : ∀ (l : List α), l.dropWhile p = [] ↔ l.all p = true
  | [] => by simp
  | a :: l => by
    rw [List.dropWhile_cons, List.all_cons]
    split
    · rename_i h; rw [h, Bool.true_and]; exact dropWhile_nil p l
    · rename_i h; rw [Bool.eq_false_iff.2 h, Bool.false_and]; simp
theorem trimS_nil (l cs : List UInt8) : Lib.trimS l cs = [] ↔ l.all (cs.contains ·) = true := by
  unfold Lib.trimS Lib.trimLeftS Lib.trimRightS
  rw [dropWhile_nil]
  cases h : l.reverse.dropWhile (cs.contains ·) with
  | nil =>
    have := (dropWhile_nil _ _).1 h
    rw [List.all_reverse] at this
    rw [this]; simp
  | cons x t =>
    have hx := dropWhile_head _ _ _ _ h
    constructor
    · intro h2
      rw [List.all_reverse, List.all_cons, hx] at h2
      cases h2
    · intro h2
      have hm : x ∈ l := by
        have : x ∈ l.reverse.dropWhile (cs.contains ·) := by rw [h]; simp
        have := (List.dropWhile_sublist (cs.contains ·)).subset this
        simpa using this
      have := List.all_eq_true.1 h2 x hm
      rw [this] at hx
      cases hx
theorem trim_plain (l : List UInt8) : Lib.trimS l plainL = [] ↔ l.all plainB = true := by
  rw [trimS_nil]
  have e : (fun b => plainL.contains b) = plainB := funext plain_mem
  rw [e]
end Go.Proofs.YtcidldomnifdeaaDoor
