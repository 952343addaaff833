/- Books of gels in memory, and what is wrong with them. -/
import Derived.Test.YtfamnaekelmkpaaGreatDoorBl
import Derived.Test.YtfamnaekelmkpaaGreatDoorCol
import Derived.Test.YtfamnaekelmkpaaGreatDoorTtlM
namespace Go.Proofs.YtfamnaekelmkpaaGreatDoor
open Go.RowKit Go.Sort

/-- A gel. -/
structure Gel where
  n : Int
  name : ByteArray
  r : Int
  g : Int
  b : Int
def Cel5 (w : World) (b off : Nat) (e : Gel) : Prop := w.cell? ⟨b, off, none⟩ = some (.int .i64 e.n) ∧ w.cell? ⟨b, off + 1, none⟩ = some (.string e.name) ∧ w.cell? ⟨b, off + 2, none⟩ = some (.int .i64 e.r) ∧ w.cell? ⟨b, off + 3, none⟩ = some (.int .i64 e.g) ∧ w.cell? ⟨b, off + 4, none⟩ = some (.int .i64 e.b)
theorem Cel5.bl {w w' : World} {b off : Nat} {e : Gel} (h : Cel5 w b off e) (g : Bl w w') : Cel5 w' b off e := ⟨g.cell h.1, g.cell h.2.1, g.cell h.2.2.1, g.cell h.2.2.2.1, g.cell h.2.2.2.2⟩
theorem Cel5.new (w : World) (t : TypeId) (e : Gel) : Cel5 (w.alloc (.cells #[.int .i64 e.n, .string e.name, .int .i64 e.r, .int .i64 e.g, .int .i64 e.b] t)) w.heap.size 0 e := ⟨by simp, by simp, by simp, by simp, by simp⟩
/-- Gels, one behind the other. -/
def GelsAt (w : World) (b off : Nat) (L : List Gel) : Prop := ∀ i (hi : i < L.length), Cel5 w b (off + i * 5) L[i]
theorem GelsAt.bl {w w' : World} {b off : Nat} {L : List Gel} (h : GelsAt w b off L) (g : Bl w w') : GelsAt w' b off L := fun i hi => (h i hi).bl g
/-- v reads as the gels L. -/
def GelVal (w : World) (v : Value) (L : List Gel) : Prop := ∃ (o : Option Addr) (cap : Nat), v = .slice o L.length cap ∧ L.length ≤ 9223372036854775807 ∧ (0 < L.length → ∃ b off, o = some ⟨b, off, none⟩ ∧ GelsAt w b off L)
theorem GelVal.bl {w w' : World} {v : Value} {L : List Gel} (h : GelVal w v L) (g : Bl w w') : GelVal w' v L := by
  obtain ⟨o, cap, h1, h2, h3⟩ := h
  exact ⟨o, cap, h1, h2, fun hp => by obtain ⟨b, off, h4, h5⟩ := h3 hp; exact ⟨b, off, h4, h5.bl g⟩⟩
def GelsOk (L : List Gel) : Prop := ∀ e ∈ L, e.name.size ≤ 9223372036854775807

/-- What is wrong with a gel behind another one. -/
def ckGel (a : Int) (e : Gel) : Int := if e.n < 1 ∨ 9999 < e.n then 1 else if e.n ≤ a then 7 else if isTtl e.name.data.toList = false then 3 else ckCol e.r e.g e.b
def ckGels : Int → List Gel → Int
  | _, [] => 0
  | a, e :: t => if ckGel a e = 0 then ckGels e.n t else ckGel a e
def ckBook (L : List Gel) : Int := if 500 < L.length then 2 else ckGels 0 L
theorem ckGels_at (L : List Gel) (k : Nat) (h : k < L.length) (a : Int) : ckGels a (L.drop k) = if ckGel a L[k] = 0 then ckGels L[k].n (L.drop (k + 1)) else ckGel a L[k] := by
  rw [List.drop_eq_getElem_cons h]; rfl
/-- Sound gels. -/
def GelOk (e : Gel) : Prop := (1 ≤ e.n ∧ e.n ≤ 9999) ∧ isTtl e.name.data.toList = true ∧ isCol e.r e.g e.b = true
theorem ckGel_ok {a : Int} {e : Gel} (h : ckGel a e = 0) : GelOk e := by
  unfold ckGel at h
  split at h
  · cases h
  split at h
  · cases h
  split at h
  · cases h
  rename_i h1 _ h3
  refine ⟨by omega, by cases hi : isTtl e.name.data.toList with
    | true => rfl
    | false => exact absurd hi h3, ?_⟩
  unfold ckCol at h
  split at h
  · assumption
  · cases h
theorem ckGels_ok : ∀ (L : List Gel) (a : Int), ckGels a L = 0 → ∀ e ∈ L, GelOk e
  | [], _, _, e, he => by cases he
  | x :: t, a, h, e, he => by
    have e1 : ckGels a (x :: t) = if ckGel a x = 0 then ckGels x.n t else ckGel a x := rfl
    rw [e1] at h
    by_cases hx : ckGel a x = 0
    · rw [if_pos hx] at h
      rcases List.mem_cons.1 he with rfl | he
      · exact ckGel_ok hx
      · exact ckGels_ok t _ h e he
    · rw [if_neg hx] at h; exact absurd h hx
theorem ckBook_ok {L : List Gel} (h : ckBook L = 0) : L.length ≤ 500 ∧ ∀ e ∈ L, GelOk e := by
  unfold ckBook at h
  split at h
  · cases h
  · exact ⟨by omega, ckGels_ok L 0 h⟩
end Go.Proofs.YtfamnaekelmkpaaGreatDoor
