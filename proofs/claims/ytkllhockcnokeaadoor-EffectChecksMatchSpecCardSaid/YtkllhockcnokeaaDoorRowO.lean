/- Slices of structs that come in, opened element by element, whatever the elements are. -/
import Derived.Test.YtkllhockcnokeaaDoorBl
import Derived.Test.YtkllhockcnokeaaDoorLawKit
namespace Go.Proofs.YtkllhockcnokeaaDoor
open Go.RowKit Go.ChangeShapes Go.WideShapes Go.ChangeAt Go.Deep
section
variable {H : Type} {enc : TypeId × Value → H} {w : World} {base : Nat} {spare : Nat → Bool} {held : Bool}

/-- v is a row of elements of k cells, each as C says. -/
def RowOf {α : Type} (C : α → List Value → Prop) (k : Nat) (w : World) (v : Value) (L : List α) : Prop := ∃ (o : Option Addr) (cap : Nat), v = .slice o L.length cap ∧ (L.length ≤ cap ∧ cap ≤ 9223372036854775807) ∧
  (0 < L.length → ∃ b off, o = some ⟨b, off, none⟩ ∧ ∀ i (hi : i < L.length), ∃ cs : List Value, C L[i] cs ∧ cs.length = k ∧ ∀ j, j < k → w.cell? ⟨b, off + i * k + j, none⟩ = cs[j]?)
theorem RowOf.nil {α : Type} (C : α → List Value → Prop) (k : Nat) (w : World) (o : Option Addr) (cap : Nat) (h : cap ≤ 9223372036854775807) : RowOf C k w (.slice o 0 cap) [] :=
  ⟨o, cap, rfl, ⟨Nat.zero_le _, h⟩, fun hp => absurd hp (by simp)⟩
theorem open_rows {P : Program} {α : Type} (C : α → List Value → Prop) (st et : TypeId) (ht : P.underlying st = some (.slice et)) (k : Nat) (hk : P.cellsOf et = k) (h0k : 0 < k)
    (one : ∀ (n : Nat) (cs : List Value) (y : DataW H × List MemPlace), DataW.trod enc P w base spare held n et cs = some y → ∃ e : α, C e cs)
    {n : Nat} {v : Value} {y : DataW H × List MemPlace} (h : DataW.trod enc P w base spare held n st [v] = some y) :
    ∃ L, RowOf C k w v L ∧ ∀ e ∈ L, ∃ cs, C e cs := by
  rcases open_slice ht h with ⟨hv, _⟩ | ⟨a, len, cap, m, n', D, Pl, hcs, _, hl, hm, hmm, _, hi⟩
  · obtain rfl : v = .slice none 0 0 := by simpa using hv
    exact ⟨[], RowOf.nil C k w _ _ (by omega), fun x hx => by cases hx⟩
  · obtain rfl : v = .slice (some a) len cap := by simpa using hcs
    have hle : len ≤ m := by rw [hmm]; split <;> omega
    have hcap : cap ≤ 9223372036854775807 := by unfold maxLen at hm; omega
    have each : ∀ i, i < len → ∃ x : α × List Value, C x.1 x.2 ∧ x.2.length = k ∧ ∀ j, j < k → w.cell? ((a.add (i * k)).add j) = x.2[j]? := by
      intro i hil
      obtain ⟨cs', h1, h2⟩ := hi i (by omega)
      rw [hk] at h1
      obtain ⟨_, hlen, hget⟩ := World.cells?_some h1
      obtain ⟨e, he⟩ := one _ _ _ h2
      exact ⟨(e, cs'), he, hlen, hget⟩
    rcases Nat.eq_zero_or_pos len with h0 | h0
    · subst h0
      exact ⟨[], RowOf.nil C k w _ _ hcap, fun x hx => by cases hx⟩
    · obtain ⟨x0, _⟩ := each 0 h0
      have : Inhabited (α × List Value) := ⟨x0⟩
      obtain ⟨f, hf⟩ := choose_lt each
      obtain ⟨b, off, spot⟩ := a
      have hspot : spot = none := by
        obtain ⟨_, g1, g2⟩ := hf 0 h0
        have g3 := g2 0 h0k
        rw [List.getElem?_eq_getElem (by omega)] at g3
        simpa [Addr.add] using World.cell?_spot g3
      subst hspot
      have hlen : ((List.range len).map fun i => (f i).1).length = len := by simp
      refine ⟨(List.range len).map fun i => (f i).1, ⟨some ⟨b, off, none⟩, cap, by rw [hlen], ⟨by rw [hlen]; exact hl, hcap⟩, fun _ => ⟨b, off, rfl, fun i hi => ?_⟩⟩, fun x hx => ?_⟩
      · rw [hlen] at hi
        have hget : ((List.range len).map fun i => (f i).1)[i]'(by rw [hlen]; exact hi) = (f i).1 := by simp
        rw [hget]
        obtain ⟨h1, h2, h3⟩ := hf i hi
        refine ⟨(f i).2, h1, h2, fun j hj => ?_⟩
        have := h3 j hj
        rwa [add_plain, add_plain] at this
      · obtain ⟨i, hi, rfl⟩ := List.mem_map.1 hx
        exact ⟨_, (hf i (List.mem_range.1 hi)).1⟩
end
end Go.Proofs.YtkllhockcnokeaaDoor
