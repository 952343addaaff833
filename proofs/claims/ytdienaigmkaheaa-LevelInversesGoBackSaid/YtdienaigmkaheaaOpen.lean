/- Curves and fades that come in, opened. -/
import Derived.Test.YtdienaigmkaheaaCheck
import Derived.Test.YtdienaigmkaheaaLawKit
namespace Go.Proofs.Ytdienaigmkaheaa
open Go.RowKit Go.ChangeShapes Go.WideShapes Go.ChangeAt Go.Deep
section
variable {H : Type} {enc : TypeId × Value → H} {w : World} {base : Nat} {spare : Nat → Bool} {held : Bool}

theorem cells2 : Try.prog.cellsOf 63 = 2 := by kernel_rfl
theorem cellsC : Try.prog.cellsOf 32 = 2 := by kernel_rfl
theorem cellsP : Try.prog.cellsOf 30 = 1 := by kernel_rfl
theorem cellsI : Try.prog.cellsOf 3 = 1 := by kernel_rfl

/-- An int of 64 bits. -/
def I64 (n : Int) : Prop := -9223372036854775808 ≤ n ∧ n ≤ 9223372036854775807
theorem i64_of {n : Int} (h : (Lit.int .i64 n).wf = true) : I64 n := by
  have := bounds_i64 h
  unfold I64
  omega
/-- Points whose numbers are ints. -/
def PtsWf (l : List (Int × Int)) : Prop := ∀ x ∈ l, I64 x.1 ∧ I64 x.2

set_option maxRecDepth 100000 in
theorem open_points {n : Nat} {v : Value} {y : DataW H × List MemPlace} (h : DataW.trod enc Try.prog w base spare held n 30 [v] = some y) : ∃ l, PtsAny w v l ∧ PtsWf l := by
  rcases open_slice Try.underlying30 h with ⟨hv, _⟩ | ⟨a, len, cap, m, n', D, Pl, hcs, _, hl, hm, hmm, _, hi⟩
  · obtain rfl : v = .slice none 0 0 := by simpa using hv
    exact ⟨[], Or.inl ⟨none, 0, rfl, rfl⟩, fun x hx => by cases hx⟩
  · obtain rfl : v = .slice (some a) len cap := by simpa using hcs
    have hle : len ≤ m := by rw [hmm]; split <;> omega
    have each : ∀ i, i < len → ∃ x : Int × Int, w.cell? (a.add (i * 2)) = some (.int .i64 x.1) ∧ w.cell? ((a.add (i * 2)).add 1) = some (.int .i64 x.2) ∧ I64 x.1 ∧ I64 x.2 := by
      intro i hil
      obtain ⟨cs', h1, h2⟩ := hi i (by omega)
      rw [cells2] at h1
      obtain ⟨_, hlen, hget⟩ := World.cells?_some h1
      obtain ⟨ys, n2, _, _, _, hyl, hf⟩ := DataW.trod_struct Try.underlying63 h2
      match cs', hlen with
      | [c0, c1], _ =>
        have f0 : DataW.trod enc Try.prog w base spare held n2 3 (([c0, c1].drop 0).take (Try.prog.cellsOf 3)) = ys[0]? := hf 0 _ rfl
        have f1 : DataW.trod enc Try.prog w base spare held n2 3 (([c0, c1].drop 1).take (Try.prog.cellsOf 3)) = ys[1]? := hf 1 _ rfl
        simp only [cellsI, List.drop_zero, List.take_succ_cons, List.take_zero, List.drop_succ_cons] at f0 f1
        have hyl2 : ys.length = 2 := hyl
        have y0 : ys[0]? = some (ys[0]'(by omega)) := List.getElem?_eq_getElem (by omega)
        have y1 : ys[1]? = some (ys[1]'(by omega)) := List.getElem?_eq_getElem (by omega)
        rw [y0] at f0
        rw [y1] at f1
        obtain ⟨z0, e0, _, w0⟩ := DataW.trod_int Try.underlying3 f0
        obtain ⟨z1, e1, _, w1⟩ := DataW.trod_int Try.underlying3 f1
        simp only [List.cons.injEq, and_true] at e0 e1
        subst e0 e1
        refine ⟨(z0, z1), ?_, ?_, i64_of w0, i64_of w1⟩
        · have := hget 0 (by omega); simpa [Addr.add] using this
        · exact hget 1 (by omega)
    obtain ⟨f, hf⟩ := choose_lt each
    rcases Nat.eq_zero_or_pos len with h0 | h0
    · subst h0
      exact ⟨[], Or.inl ⟨_, _, rfl, rfl⟩, fun x hx => by cases hx⟩
    · obtain ⟨b, off, spot⟩ := a
      have hspot : spot = none := by simpa [Addr.add] using World.cell?_spot (hf 0 h0).1
      subst hspot
      have hlen : ((List.range len).map f).length = len := by simp
      have hget : ∀ i, i < len → ((List.range len).map f)[i]?.getD (0, 0) = f i := fun i hi => by simp [hi]
      refine ⟨(List.range len).map f, Or.inr ⟨b, off, cap, by rw [hlen], fun i hi => ?_, by rw [hlen]; unfold maxLen at hm; omega⟩, fun x hx => ?_⟩
      · rw [hlen] at hi
        rw [hget i hi]
        obtain ⟨h1, h2, _, _⟩ := hf i hi
        rw [add_plain] at h1 h2
        rw [add_plain] at h2
        exact ⟨h1, h2⟩
      · obtain ⟨i, hi, rfl⟩ := List.mem_map.1 hx
        exact (hf i (List.mem_range.1 hi)).2.2

set_option maxRecDepth 100000 in
/-- The two cells of a curve. -/
theorem open_curve' {n : Nat} {cs : List Value} {y : DataW H × List MemPlace} (h : DataW.trod enc Try.prog w base spare held n 32 cs = some y) :
    ∃ (k : Int) (sv : Value) (l : List (Int × Int)), cs = [.int .i64 k, sv] ∧ I64 k ∧ PtsAny w sv l ∧ PtsWf l := by
  obtain ⟨ys, n2, _, _, hcl, hyl, hf⟩ := DataW.trod_struct Try.underlying32 h
  rw [cellsC] at hcl
  match cs, hcl with
  | [c0, c1], _ =>
    have f0 : DataW.trod enc Try.prog w base spare held n2 3 (([c0, c1].drop 0).take (Try.prog.cellsOf 3)) = ys[0]? := hf 0 _ rfl
    have f1 : DataW.trod enc Try.prog w base spare held n2 30 (([c0, c1].drop 1).take (Try.prog.cellsOf 30)) = ys[1]? := hf 1 _ rfl
    simp only [cellsI, cellsP, List.drop_zero, List.take_succ_cons, List.take_zero, List.drop_succ_cons] at f0 f1
    have hyl2 : ys.length = 2 := hyl
    have y0 : ys[0]? = some (ys[0]'(by omega)) := List.getElem?_eq_getElem (by omega)
    have y1 : ys[1]? = some (ys[1]'(by omega)) := List.getElem?_eq_getElem (by omega)
    rw [y0] at f0
    rw [y1] at f1
    obtain ⟨z0, e0, _, w0⟩ := DataW.trod_int Try.underlying3 f0
    simp only [List.cons.injEq, and_true] at e0
    subst e0
    obtain ⟨l, h1, h2⟩ := open_points f1
    exact ⟨z0, c1, l, rfl, i64_of w0, h1, h2⟩

set_option maxRecDepth 100000 in
theorem open_curve {r : Reach} {b0 : Nat} {v : Value} {d : DataW H} {p : List MemPlace} (hv : Value.okWide Try.prog w r b0 32 v) (h : DataW.Trod enc Try.prog w base spare held 32 v d p) :
    ∃ (k : Int) (sv : Value) (l : List (Int × Int)), v = .agg #[.int .i64 k, sv] ∧ I64 k ∧ PtsAny w sv l ∧ PtsWf l := by
  obtain ⟨cs, rfl, _⟩ := okWide_struct Try.underlying32 hv
  obtain ⟨n, hn⟩ := h
  obtain ⟨k, sv, l, h1, h2⟩ := open_curve' hn
  obtain ⟨cl⟩ := cs
  simp only [Value.cells] at h1
  subst h1
  exact ⟨k, sv, l, rfl, h2⟩
end
end Go.Proofs.Ytdienaigmkaheaa
