/- Gels that come in, opened. -/
import Derived.Test.YtfamnaekelmkpaaDoorGelM
import Derived.Test.YtfamnaekelmkpaaDoorLawKit
namespace Go.Proofs.YtfamnaekelmkpaaDoor
open Go.RowKit Go.ChangeShapes Go.WideShapes Go.ChangeAt Go.Deep
section
variable {H : Type} {enc : TypeId × Value → H} {w : World} {base : Nat} {spare : Nat → Bool} {held : Bool}

theorem cellsG5 : Tryd.prog.cellsOf 37 = 5 := by kernel_rfl
theorem cellsG3 : Tryd.prog.cellsOf 23 = 3 := by kernel_rfl
theorem cellsGS : Tryd.prog.cellsOf 9 = 1 := by kernel_rfl
theorem cellsGI : Tryd.prog.cellsOf 3 = 1 := by kernel_rfl
set_option maxRecDepth 100000 in
/-- The three cells of a colour. -/
theorem open_col3g {n : Nat} {cs : List Value} {y : DataW H × List MemPlace} (h : DataW.trod enc Tryd.prog w base spare held n 23 cs = some y) :
    ∃ r g b : Int, cs = [.int .i64 r, .int .i64 g, .int .i64 b] := by
  obtain ⟨ys, n2, _, _, hcl, hyl, hf⟩ := DataW.trod_struct Tryd.underlying23 h
  rw [cellsG3] at hcl
  match cs, hcl with
  | [c0, c1, c2], _ =>
    have f0 : DataW.trod enc Tryd.prog w base spare held n2 3 (([c0, c1, c2].drop 0).take (Tryd.prog.cellsOf 3)) = ys[0]? := hf 0 _ rfl
    have f1 : DataW.trod enc Tryd.prog w base spare held n2 3 (([c0, c1, c2].drop 1).take (Tryd.prog.cellsOf 3)) = ys[1]? := hf 1 _ rfl
    have f2 : DataW.trod enc Tryd.prog w base spare held n2 3 (([c0, c1, c2].drop 2).take (Tryd.prog.cellsOf 3)) = ys[2]? := hf 2 _ rfl
    simp only [cellsGI, List.drop_zero, List.take_succ_cons, List.take_zero, List.drop_succ_cons] at f0 f1 f2
    have hyl2 : ys.length = 3 := hyl
    rw [List.getElem?_eq_getElem (by omega)] at f0 f1 f2
    obtain ⟨z0, e0, _, _⟩ := DataW.trod_int Tryd.underlying3 f0
    obtain ⟨z1, e1, _, _⟩ := DataW.trod_int Tryd.underlying3 f1
    obtain ⟨z2, e2, _, _⟩ := DataW.trod_int Tryd.underlying3 f2
    simp only [List.cons.injEq, and_true] at e0 e1 e2
    subst e0 e1 e2
    exact ⟨z0, z1, z2, rfl⟩
set_option maxRecDepth 100000 in
/-- The five cells of a gel. -/
theorem open_gel5 {n : Nat} {cs : List Value} {y : DataW H × List MemPlace} (h : DataW.trod enc Tryd.prog w base spare held n 37 cs = some y) :
    ∃ e : Gel, cs = [.int .i64 e.n, .string e.name, .int .i64 e.r, .int .i64 e.g, .int .i64 e.b] ∧ e.name.size ≤ 9223372036854775807 := by
  obtain ⟨ys, n2, _, _, hcl, hyl, hf⟩ := DataW.trod_struct Tryd.underlying37 h
  rw [cellsG5] at hcl
  match cs, hcl with
  | [c0, c1, c2, c3, c4], _ =>
    have f0 : DataW.trod enc Tryd.prog w base spare held n2 3 (([c0, c1, c2, c3, c4].drop 0).take (Tryd.prog.cellsOf 3)) = ys[0]? := hf 0 _ rfl
    have f1 : DataW.trod enc Tryd.prog w base spare held n2 9 (([c0, c1, c2, c3, c4].drop 1).take (Tryd.prog.cellsOf 9)) = ys[1]? := hf 1 _ rfl
    have f2 : DataW.trod enc Tryd.prog w base spare held n2 23 (([c0, c1, c2, c3, c4].drop 2).take (Tryd.prog.cellsOf 23)) = ys[2]? := hf 2 _ rfl
    simp only [cellsGS, cellsG3, cellsGI, List.drop_zero, List.take_succ_cons, List.take_zero, List.drop_succ_cons] at f0 f1 f2
    have hyl2 : ys.length = 3 := hyl
    rw [List.getElem?_eq_getElem (by omega)] at f0 f1 f2
    obtain ⟨z0, e0, _, _⟩ := DataW.trod_int Tryd.underlying3 f0
    obtain ⟨s0, e1, _, w0⟩ := DataW.trod_string Tryd.underlying9 f1
    obtain ⟨r, g, b, e2⟩ := open_col3g f2
    simp only [List.cons.injEq, and_true] at e0 e1 e2
    obtain ⟨e2, e3, e4⟩ := e2
    subst e0 e1 e2 e3 e4
    exact ⟨⟨z0, s0, r, g, b⟩, rfl, by unfold maxLen at w0; simp only; omega⟩
set_option maxRecDepth 100000 in
theorem open_gels0 {n : Nat} {v : Value} {y : DataW H × List MemPlace} (h : DataW.trod enc Tryd.prog w base spare held n 31 [v] = some y) : ∃ L, GelVal w v L ∧ GelsOk L := by
  rcases open_slice Tryd.underlying31 h with ⟨hv, _⟩ | ⟨a, len, cap, m, n', D, Pl, hcs, _, hl, hm, hmm, _, hi⟩
  · obtain rfl : v = .slice none 0 0 := by simpa using hv
    exact ⟨[], ⟨none, 0, rfl, by simp, fun h => absurd h (by simp)⟩, fun x hx => by cases hx⟩
  · obtain rfl : v = .slice (some a) len cap := by simpa using hcs
    have hle : len ≤ m := by rw [hmm]; split <;> omega
    have each : ∀ i, i < len → ∃ e : Gel, w.cell? (a.add (i * 5)) = some (.int .i64 e.n) ∧ w.cell? ((a.add (i * 5)).add 1) = some (.string e.name) ∧ w.cell? ((a.add (i * 5)).add 2) = some (.int .i64 e.r) ∧ w.cell? ((a.add (i * 5)).add 3) = some (.int .i64 e.g) ∧ w.cell? ((a.add (i * 5)).add 4) = some (.int .i64 e.b) ∧ e.name.size ≤ 9223372036854775807 := by
      intro i hil
      obtain ⟨cs', h1, h2⟩ := hi i (by omega)
      rw [cellsG5] at h1
      obtain ⟨_, hlen, hget⟩ := World.cells?_some h1
      obtain ⟨e, rfl, he⟩ := open_gel5 h2
      refine ⟨e, ?_, hget 1 (by omega), hget 2 (by omega), hget 3 (by omega), hget 4 (by omega), he⟩
      have := hget 0 (by omega); simpa [Addr.add] using this
    rcases Nat.eq_zero_or_pos len with h0 | h0
    · subst h0
      exact ⟨[], ⟨_, _, rfl, by simp, fun h => absurd h (by simp)⟩, fun x hx => by cases hx⟩
    · obtain ⟨x0, _⟩ := each 0 h0
      have : Inhabited Gel := ⟨x0⟩
      obtain ⟨f, hf⟩ := choose_lt each
      obtain ⟨b, off, spot⟩ := a
      have hspot : spot = none := by simpa [Addr.add] using World.cell?_spot (hf 0 h0).1
      subst hspot
      have hlen : ((List.range len).map f).length = len := by simp
      refine ⟨(List.range len).map f, ⟨some ⟨b, off, none⟩, cap, by rw [hlen], by rw [hlen]; unfold maxLen at hm; omega, fun _ => ⟨b, off, rfl, fun i hi => ?_⟩⟩, fun x hx => ?_⟩
      · rw [hlen] at hi
        have hget : ((List.range len).map f)[i]'(by rw [hlen]; exact hi) = f i := by simp
        rw [hget]
        obtain ⟨h1, h2, h3, h4, h5, _⟩ := hf i hi
        rw [add_plain] at h1 h2 h3 h4 h5
        rw [add_plain] at h2 h3 h4 h5
        exact ⟨h1, h2, h3, h4, h5⟩
      · obtain ⟨i, hi, rfl⟩ := List.mem_map.1 hx
        exact (hf i (List.mem_range.1 hi)).2.2.2.2.2
set_option maxRecDepth 100000 in
theorem open_gels {r : Reach} {b0 : Nat} {v : Value} {d : DataW H} {p : List MemPlace} (hv : Value.okWide Tryd.prog w r b0 31 v) (h : DataW.Trod enc Tryd.prog w base spare held 31 v d p) : ∃ L, GelVal w v L ∧ GelsOk L := by
  obtain ⟨n, hn⟩ := h
  obtain ⟨o, len, cap, rfl⟩ := okWide_slice Tryd.underlying31 hv
  exact open_gels0 hn
end
end Go.Proofs.YtfamnaekelmkpaaDoor
