/- Emitters that come in, opened. -/
import Derived.Test.YtdmpdcggepfaiaaDoorEmA
import Derived.Test.YtdmpdcggepfaiaaDoorLawKit
namespace Go.Proofs.YtdmpdcggepfaiaaDoor
open Go.RowKit Go.ChangeShapes Go.WideShapes Go.ChangeAt Go.Deep
section
variable {H : Type} {enc : TypeId × Value → H} {w : World} {base : Nat} {spare : Nat → Bool} {held : Bool}

theorem cellsE4 : Tryd.prog.cellsOf 55 = 4 := by kernel_rfl
theorem cellsE3 : Tryd.prog.cellsOf 23 = 3 := by kernel_rfl
theorem cellsES : Tryd.prog.cellsOf 9 = 1 := by kernel_rfl
theorem cellsEI : Tryd.prog.cellsOf 3 = 1 := by kernel_rfl

set_option maxRecDepth 100000 in
/-- The three cells of a colour. -/
theorem open_col3 {n : Nat} {cs : List Value} {y : DataW H × List MemPlace} (h : DataW.trod enc Tryd.prog w base spare held n 23 cs = some y) :
    ∃ r g b : Int, cs = [.int .i64 r, .int .i64 g, .int .i64 b] := by
  obtain ⟨ys, n2, _, _, hcl, hyl, hf⟩ := DataW.trod_struct Tryd.underlying23 h
  rw [cellsE3] at hcl
  match cs, hcl with
  | [c0, c1, c2], _ =>
    have f0 : DataW.trod enc Tryd.prog w base spare held n2 3 (([c0, c1, c2].drop 0).take (Tryd.prog.cellsOf 3)) = ys[0]? := hf 0 _ rfl
    have f1 : DataW.trod enc Tryd.prog w base spare held n2 3 (([c0, c1, c2].drop 1).take (Tryd.prog.cellsOf 3)) = ys[1]? := hf 1 _ rfl
    have f2 : DataW.trod enc Tryd.prog w base spare held n2 3 (([c0, c1, c2].drop 2).take (Tryd.prog.cellsOf 3)) = ys[2]? := hf 2 _ rfl
    simp only [cellsEI, List.drop_zero, List.take_succ_cons, List.take_zero, List.drop_succ_cons] at f0 f1 f2
    have hyl2 : ys.length = 3 := hyl
    rw [List.getElem?_eq_getElem (by omega)] at f0 f1 f2
    obtain ⟨z0, e0, _, _⟩ := DataW.trod_int Tryd.underlying3 f0
    obtain ⟨z1, e1, _, _⟩ := DataW.trod_int Tryd.underlying3 f1
    obtain ⟨z2, e2, _, _⟩ := DataW.trod_int Tryd.underlying3 f2
    simp only [List.cons.injEq, and_true] at e0 e1 e2
    subst e0 e1 e2
    exact ⟨z0, z1, z2, rfl⟩

set_option maxRecDepth 100000 in
/-- The four cells of an emitter. -/
theorem open_em4 {n : Nat} {cs : List Value} {y : DataW H × List MemPlace} (h : DataW.trod enc Tryd.prog w base spare held n 55 cs = some y) :
    ∃ e : Em, cs = [.string e.name, .int .i64 e.r, .int .i64 e.g, .int .i64 e.b] ∧ e.name.size ≤ 9223372036854775807 := by
  obtain ⟨ys, n2, _, _, hcl, hyl, hf⟩ := DataW.trod_struct Tryd.underlying55 h
  rw [cellsE4] at hcl
  match cs, hcl with
  | [c0, c1, c2, c3], _ =>
    have f0 : DataW.trod enc Tryd.prog w base spare held n2 9 (([c0, c1, c2, c3].drop 0).take (Tryd.prog.cellsOf 9)) = ys[0]? := hf 0 _ rfl
    have f1 : DataW.trod enc Tryd.prog w base spare held n2 23 (([c0, c1, c2, c3].drop 1).take (Tryd.prog.cellsOf 23)) = ys[1]? := hf 1 _ rfl
    simp only [cellsES, cellsE3, List.drop_zero, List.take_succ_cons, List.take_zero, List.drop_succ_cons] at f0 f1
    have hyl2 : ys.length = 2 := hyl
    rw [List.getElem?_eq_getElem (by omega)] at f0 f1
    obtain ⟨s0, e0, _, w0⟩ := DataW.trod_string Tryd.underlying9 f0
    obtain ⟨r, g, b, e1⟩ := open_col3 f1
    simp only [List.cons.injEq, and_true] at e0 e1
    obtain ⟨e1, e2, e3⟩ := e1
    subst e0 e1 e2 e3
    exact ⟨⟨s0, r, g, b⟩, rfl, by unfold maxLen at w0; simp only; omega⟩

set_option maxRecDepth 100000 in
theorem open_ems {n : Nat} {v : Value} {y : DataW H × List MemPlace} (h : DataW.trod enc Tryd.prog w base spare held n 46 [v] = some y) : ∃ L, EmVal w v L ∧ EmsOk L := by
  rcases open_slice Tryd.underlying46 h with ⟨hv, _⟩ | ⟨a, len, cap, m, n', D, Pl, hcs, _, hl, hm, hmm, _, hi⟩
  · obtain rfl : v = .slice none 0 0 := by simpa using hv
    exact ⟨[], ⟨none, 0, rfl, by simp, fun h => absurd h (by simp)⟩, fun x hx => by cases hx⟩
  · obtain rfl : v = .slice (some a) len cap := by simpa using hcs
    have hle : len ≤ m := by rw [hmm]; split <;> omega
    have each : ∀ i, i < len → ∃ e : Em, w.cell? (a.add (i * 4)) = some (.string e.name) ∧ w.cell? ((a.add (i * 4)).add 1) = some (.int .i64 e.r) ∧ w.cell? ((a.add (i * 4)).add 2) = some (.int .i64 e.g) ∧ w.cell? ((a.add (i * 4)).add 3) = some (.int .i64 e.b) ∧ e.name.size ≤ 9223372036854775807 := by
      intro i hil
      obtain ⟨cs', h1, h2⟩ := hi i (by omega)
      rw [cellsE4] at h1
      obtain ⟨_, hlen, hget⟩ := World.cells?_some h1
      obtain ⟨e, rfl, he⟩ := open_em4 h2
      refine ⟨e, ?_, hget 1 (by omega), hget 2 (by omega), hget 3 (by omega), he⟩
      have := hget 0 (by omega); simpa [Addr.add] using this
    rcases Nat.eq_zero_or_pos len with h0 | h0
    · subst h0
      exact ⟨[], ⟨_, _, rfl, by simp, fun h => absurd h (by simp)⟩, fun x hx => by cases hx⟩
    · obtain ⟨x0, _⟩ := each 0 h0
      have : Inhabited Em := ⟨x0⟩
      obtain ⟨f, hf⟩ := choose_lt each
      obtain ⟨b, off, spot⟩ := a
      have hspot : spot = none := by simpa [Addr.add] using World.cell?_spot (hf 0 h0).1
      subst hspot
      have hlen : ((List.range len).map f).length = len := by simp
      refine ⟨(List.range len).map f, ⟨some ⟨b, off, none⟩, cap, by rw [hlen], by rw [hlen]; unfold maxLen at hm; omega, fun _ => ⟨b, off, rfl, fun i hi => ?_⟩⟩, fun x hx => ?_⟩
      · rw [hlen] at hi
        have hget : ((List.range len).map f)[i]'(by rw [hlen]; exact hi) = f i := by simp
        rw [hget]
        obtain ⟨h1, h2, h3, h4, _⟩ := hf i hi
        rw [add_plain] at h1 h2 h3 h4
        rw [add_plain] at h2 h3 h4
        exact ⟨h1, h2, h3, h4⟩
      · obtain ⟨i, hi, rfl⟩ := List.mem_map.1 hx
        exact (hf i (List.mem_range.1 hi)).2.2.2.2

set_option maxRecDepth 100000 in
theorem open_emitters {r : Reach} {b0 : Nat} {v : Value} {d : DataW H} {p : List MemPlace} (hv : Value.okWide Tryd.prog w r b0 46 v) (h : DataW.Trod enc Tryd.prog w base spare held 46 v d p) : ∃ L, EmVal w v L ∧ EmsOk L := by
  obtain ⟨n, hn⟩ := h
  obtain ⟨o, len, cap, rfl⟩ := okWide_slice Tryd.underlying46 hv
  exact open_ems hn

set_option maxRecDepth 100000 in
theorem open_colE {r : Reach} {b0 : Nat} {v : Value} {d : DataW H} {p : List MemPlace} (hv : Value.okWide Tryd.prog w r b0 23 v) (h : DataW.Trod enc Tryd.prog w base spare held 23 v d p) :
    ∃ x y z : Int, v = .agg #[.int .i64 x, .int .i64 y, .int .i64 z] := by
  obtain ⟨cs, rfl, _⟩ := okWide_struct Tryd.underlying23 hv
  obtain ⟨n, hn⟩ := h
  obtain ⟨x, y, z, e⟩ := open_col3 hn
  obtain ⟨cl⟩ := cs
  simp only [Value.cells] at e
  subst e
  exact ⟨x, y, z, rfl⟩
end
end Go.Proofs.YtdmpdcggepfaiaaDoor
