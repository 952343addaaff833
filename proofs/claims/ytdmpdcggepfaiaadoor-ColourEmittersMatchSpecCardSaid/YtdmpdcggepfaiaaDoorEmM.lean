/- Emitters: how a slice of them lies in memory, and what the checks say of them. -/
import Derived.Test.YtdmpdcggepfaiaaDoorSetB
import Derived.Test.YtdmpdcggepfaiaaDoorNameM
import Derived.Test.YtdmpdcggepfaiaaDoorLevI
namespace Go.Proofs.YtdmpdcggepfaiaaDoor
open Go.RowKit

structure Em where
  name : ByteArray
  r : Int
  g : Int
  b : Int

/-- The cells of emitters in a row. -/
def EmsAt (w : World) (b off : Nat) (L : List Em) : Prop := ∀ i (h : i < L.length), w.cell? ⟨b, off + i * 4, none⟩ = some (.string L[i].name) ∧ w.cell? ⟨b, off + i * 4 + 1, none⟩ = some (.int .i64 L[i].r) ∧ w.cell? ⟨b, off + i * 4 + 2, none⟩ = some (.int .i64 L[i].g) ∧ w.cell? ⟨b, off + i * 4 + 3, none⟩ = some (.int .i64 L[i].b)
theorem EmsAt.bl {w w' : World} {b off : Nat} {L : List Em} (h : EmsAt w b off L) (g : Bl w w') : EmsAt w' b off L := fun i hi =>
  ⟨g.cell (h i hi).1, g.cell (h i hi).2.1, g.cell (h i hi).2.2.1, g.cell (h i hi).2.2.2⟩
/-- Texts that are no longer than any text. -/
def EmsOk (L : List Em) : Prop := ∀ e ∈ L, e.name.size ≤ 9223372036854775807

/-- What is said of one emitter behind those whose names are these. -/
def ckEm (seen : List (List UInt8)) (e : Em) : Int :=
  if isNm e.name.data.toList = false then 5 else if seen.contains e.name.data.toList = true then 6 else if (isLev e.r && isLev e.g && isLev e.b) = false then 1 else if e.r = 0 ∧ e.g = 0 ∧ e.b = 0 then 8 else 0
def ckEms : List (List UInt8) → List Em → Int
  | _, [] => 0
  | seen, e :: t => if ckEm seen e = 0 then ckEms (seen ++ [e.name.data.toList]) t else ckEm seen e
def namesOf (L : List Em) : List (List UInt8) := L.map (fun e => e.name.data.toList)
/-- What CheckEmitters says. -/
def ckAll (L : List Em) : Int := if L.length = 0 then 8 else if 12 < L.length then 2 else ckEms [] L

theorem ckEms_at (L : List Em) : ∀ (k : Nat) (hk : k < L.length) (seen : List (List UInt8)), ckEms (seen ++ namesOf (L.take k)) (L.drop k) = if ckEm (seen ++ namesOf (L.take k)) L[k] = 0 then ckEms (seen ++ namesOf (L.take (k + 1))) (L.drop (k + 1)) else ckEm (seen ++ namesOf (L.take k)) L[k] := by
  intro k hk seen
  rw [List.drop_eq_getElem_cons hk]
  show (if _ then _ else _) = _
  rw [List.take_succ_eq_append_getElem hk]
  unfold namesOf
  rw [List.map_append, List.map_cons, List.map_nil, List.append_assoc]
end Go.Proofs.YtdmpdcggepfaiaaDoor
