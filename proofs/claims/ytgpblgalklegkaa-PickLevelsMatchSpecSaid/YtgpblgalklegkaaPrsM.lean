/- Settings and presets: how slices of them lie in memory, and what is found in them. -/
import Derived.Test.YtgpblgalklegkaaBl
namespace Go.Proofs.Ytgpblgalklegkaa
open Go.RowKit

structure St where
  unit : Int
  param : ByteArray
  lev : Int
structure Pr where
  num : Int
  title : ByteArray
  sets : List St

/-- The cells of settings in a row. -/
def StsAt (w : World) (b off : Nat) (L : List St) : Prop := ∀ i (h : i < L.length), w.cell? ⟨b, off + i * 3, none⟩ = some (.int .i64 L[i].unit) ∧ w.cell? ⟨b, off + i * 3 + 1, none⟩ = some (.string L[i].param) ∧ w.cell? ⟨b, off + i * 3 + 2, none⟩ = some (.int .i64 L[i].lev)
theorem StsAt.bl {w w' : World} {b off : Nat} {L : List St} (h : StsAt w b off L) (g : Bl w w') : StsAt w' b off L := fun i hi =>
  ⟨g.cell (h i hi).1, g.cell (h i hi).2.1, g.cell (h i hi).2.2⟩
/-- v reads as the settings L. -/
def StVal (w : World) (v : Value) (L : List St) : Prop := ∃ (o : Option Addr) (cap : Nat), v = .slice o L.length cap ∧ L.length ≤ 9223372036854775807 ∧ (0 < L.length → ∃ b off, o = some ⟨b, off, none⟩ ∧ StsAt w b off L)
theorem StVal.bl {w w' : World} {v : Value} {L : List St} (h : StVal w v L) (g : Bl w w') : StVal w' v L := by
  obtain ⟨o, cap, h1, h2, h3⟩ := h
  exact ⟨o, cap, h1, h2, fun hp => by obtain ⟨b, off, h4, h5⟩ := h3 hp; exact ⟨b, off, h4, h5.bl g⟩⟩
/-- Texts that are no longer than any text. -/
def StOk (e : St) : Prop := e.param.size ≤ 9223372036854775807
/-- The cells of presets in a row. -/
def PrsAt (w : World) (b off : Nat) (L : List Pr) : Prop := ∀ i (h : i < L.length), w.cell? ⟨b, off + i * 3, none⟩ = some (.int .i64 L[i].num) ∧ w.cell? ⟨b, off + i * 3 + 1, none⟩ = some (.string L[i].title) ∧ ∃ v, w.cell? ⟨b, off + i * 3 + 2, none⟩ = some v ∧ StVal w v L[i].sets
theorem PrsAt.bl {w w' : World} {b off : Nat} {L : List Pr} (h : PrsAt w b off L) (g : Bl w w') : PrsAt w' b off L := fun i hi => by
  obtain ⟨h1, h2, v, h3, h4⟩ := h i hi
  exact ⟨g.cell h1, g.cell h2, v, g.cell h3, h4.bl g⟩
/-- v reads as the presets L. -/
def PrVal (w : World) (v : Value) (L : List Pr) : Prop := ∃ (o : Option Addr) (cap : Nat), v = .slice o L.length cap ∧ L.length ≤ 9223372036854775807 ∧ (0 < L.length → ∃ b off, o = some ⟨b, off, none⟩ ∧ PrsAt w b off L)
theorem PrVal.bl {w w' : World} {v : Value} {L : List Pr} (h : PrVal w v L) (g : Bl w w') : PrVal w' v L := by
  obtain ⟨o, cap, h1, h2, h3⟩ := h
  exact ⟨o, cap, h1, h2, fun hp => by obtain ⟨b, off, h4, h5⟩ := h3 hp; exact ⟨b, off, h4, h5.bl g⟩⟩
def PrOk (e : Pr) : Prop := e.title.size ≤ 9223372036854775807 ∧ ∀ s ∈ e.sets, StOk s

/-- The first one with the number. -/
def prFind : List Pr → Int → Option Pr
  | [], _ => none
  | p :: t, n => if p.num = n then some p else prFind t n
/-- The level of the first one with the key. -/
def stFind : List St → Int → ByteArray → Option Int
  | [], _, _ => none
  | s :: t, u, p => if s.unit = u ∧ s.param.toList = p.toList then some s.lev else stFind t u p
theorem prFind_at (L : List Pr) (n : Int) (k : Nat) (hk : k < L.length) : prFind (L.drop k) n = if L[k].num = n then some L[k] else prFind (L.drop (k + 1)) n := by
  rw [List.drop_eq_getElem_cons hk]; rfl
theorem stFind_at (L : List St) (u : Int) (p : ByteArray) (k : Nat) (hk : k < L.length) : stFind (L.drop k) u p = if L[k].unit = u ∧ L[k].param.toList = p.toList then some L[k].lev else stFind (L.drop (k + 1)) u p := by
  rw [List.drop_eq_getElem_cons hk]; rfl
theorem prFind_mem {L : List Pr} {n : Int} {q : Pr} (h : prFind L n = some q) : q ∈ L := by
  induction L with
  | nil => cases h
  | cons a t ih =>
    unfold prFind at h
    split at h
    · cases h; exact List.mem_cons_self
    · exact List.mem_cons_of_mem _ (ih h)
/-- What Level says and gives. -/
def valX (isL : Bool) (L : List Pr) (u : Int) (p : ByteArray) (lev pre : Int) : Int × Int :=
  if lev ≠ 0 ∧ pre ≠ 0 then (0, 3) else if isL = false then (0, 1) else if pre = 0 then (lev, 0) else
  match prFind L pre with
  | none => (0, 8)
  | some q => match stFind q.sets u p with
    | none => (0, 8)
    | some x => (x, 0)
end Go.Proofs.Ytgpblgalklegkaa
