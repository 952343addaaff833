/- Slices of ints that come in, opened; no slice that comes in is longer than its room. -/
import Derived.Test.YtdmpdcggepfaiaaDoorOpenE
import Derived.Test.YtdmpdcggepfaiaaDoorEmS
namespace Go.Proofs.YtdmpdcggepfaiaaDoor
open Go.RowKit Go.ChangeShapes Go.WideShapes Go.ChangeAt Go.Deep
section
variable {H : Type} {enc : TypeId × Value → H} {w : World} {base : Nat} {spare : Nat → Bool} {held : Bool}

theorem open_fits {t e : TypeId} (ht : Tryd.prog.underlying t = some (.slice e)) {v : Value} {d : DataW H} {p : List MemPlace} (h : DataW.Trod enc Tryd.prog w base spare held t v d p) (hv : ∃ o l c, v = .slice o l c) : Fits v := by
  obtain ⟨n, hn⟩ := h
  obtain ⟨o, l, c, rfl⟩ := hv
  intro o' l' c' e'
  cases e'
  rcases open_slice ht hn with ⟨hv, _⟩ | ⟨a, len, cap, m, n', D, Pl, hcs, _, hl, hm, hmm, _, hi⟩
  · simp only [Value.cells, List.cons.injEq, and_true] at hv; cases hv; exact Nat.le_refl _
  · simp only [Value.cells, List.cons.injEq, and_true] at hcs; cases hcs; exact hl

set_option maxRecDepth 100000 in
theorem open_lvs {n : Nat} {v : Value} {y : DataW H × List MemPlace} (h : DataW.trod enc Tryd.prog w base spare held n 47 [v] = some y) : ∃ xs, LvVal w v xs := by
  rcases open_slice1 Tryd.underlying47 (by kernel_rfl) h with ⟨hv, _⟩ | ⟨a, len, cap, m, n', V, D, Pl, hcs, _, hl, hm, hmm, _, hi⟩
  · obtain rfl : v = .slice none 0 0 := by simpa using hv
    exact ⟨[], none, 0, rfl, by simp, fun h => absurd h (by simp)⟩
  · obtain rfl : v = .slice (some a) len cap := by simpa using hcs
    have hle : len ≤ m := by rw [hmm]; split <;> omega
    have each : ∀ i, i < len → ∃ x : Int, w.cell? (a.add i) = some (.int .i64 x) := by
      intro i hil
      obtain ⟨h1, h2⟩ := hi i (by omega)
      obtain ⟨z, e, _, _⟩ := DataW.trod_int Tryd.underlying3 h2
      simp only [List.cons.injEq, and_true] at e
      exact ⟨z, by rw [h1, e]⟩
    rcases Nat.eq_zero_or_pos len with h0 | h0
    · subst h0
      exact ⟨[], _, _, rfl, by simp, fun h => absurd h (by simp)⟩
    · obtain ⟨x0, _⟩ := each 0 h0
      have : Inhabited Int := ⟨x0⟩
      obtain ⟨f, hf⟩ := choose_lt each
      obtain ⟨b, off, spot⟩ := a
      have hspot : spot = none := by simpa [Addr.add] using World.cell?_spot (hf 0 h0)
      subst hspot
      have hlen : ((List.range len).map f).length = len := by simp
      refine ⟨(List.range len).map f, some ⟨b, off, none⟩, cap, by rw [hlen], by rw [hlen]; unfold maxLen at hm; omega, fun _ => ⟨b, off, rfl, fun i hi => ?_⟩⟩
      rw [hlen] at hi
      have := hf i hi
      rw [add_plain] at this
      rw [this]; simp

set_option maxRecDepth 100000 in
theorem open_levels {r : Reach} {b0 : Nat} {v : Value} {d : DataW H} {p : List MemPlace} (hv : Value.okWide Tryd.prog w r b0 47 v) (h : DataW.Trod enc Tryd.prog w base spare held 47 v d p) : ∃ xs, LvVal w v xs := by
  obtain ⟨n, hn⟩ := h
  obtain ⟨o, len, cap, rfl⟩ := okWide_slice Tryd.underlying47 hv
  exact open_lvs hn
end
end Go.Proofs.YtdmpdcggepfaiaaDoor
