/- Settings and presets that come in, opened. -/
import Derived.Test.YtgpblgalklegkaaPrsM
import Derived.Test.YtgpblgalklegkaaLawKit
import Derived.Test.YtgpblgalklegkaaShelf
namespace Go.Proofs.Ytgpblgalklegkaa
open Go.RowKit Go.ChangeShapes Go.WideShapes Go.ChangeAt Go.Deep
section
variable {H : Type} {enc : TypeId × Value → H} {w : World} {base : Nat} {spare : Nat → Bool} {held : Bool}

theorem cellsP3 : Try.prog.cellsOf 47 = 3 := by kernel_rfl
theorem cellsS3 : Try.prog.cellsOf 51 = 3 := by kernel_rfl
theorem cellsK2 : Try.prog.cellsOf 35 = 2 := by kernel_rfl
theorem cellsPL : Try.prog.cellsOf 45 = 1 := by kernel_rfl
theorem cellsPS : Try.prog.cellsOf 9 = 1 := by kernel_rfl
theorem cellsPI : Try.prog.cellsOf 3 = 1 := by kernel_rfl

set_option maxRecDepth 100000 in
/-- The two cells of a key. -/
theorem open_key2 {n : Nat} {cs : List Value} {y : DataW H × List MemPlace} (h : DataW.trod enc Try.prog w base spare held n 35 cs = some y) :
    ∃ (u : Int) (p : ByteArray), cs = [.int .i64 u, .string p] ∧ p.size ≤ 9223372036854775807 := by
  obtain ⟨ys, n2, _, _, hcl, hyl, hf⟩ := DataW.trod_struct Try.underlying35 h
  rw [cellsK2] at hcl
  match cs, hcl with
  | [c0, c1], _ =>
    have f0 : DataW.trod enc Try.prog w base spare held n2 3 (([c0, c1].drop 0).take (Try.prog.cellsOf 3)) = ys[0]? := hf 0 _ rfl
    have f1 : DataW.trod enc Try.prog w base spare held n2 9 (([c0, c1].drop 1).take (Try.prog.cellsOf 9)) = ys[1]? := hf 1 _ rfl
    simp only [cellsPI, cellsPS, List.drop_zero, List.take_succ_cons, List.take_zero, List.drop_succ_cons] at f0 f1
    have hyl2 : ys.length = 2 := hyl
    rw [List.getElem?_eq_getElem (by omega)] at f0 f1
    obtain ⟨z0, e0, _, _⟩ := DataW.trod_int Try.underlying3 f0
    obtain ⟨s1, e1, _, w1⟩ := DataW.trod_string Try.underlying9 f1
    simp only [List.cons.injEq, and_true] at e0 e1
    subst e0 e1
    exact ⟨z0, s1, rfl, by unfold maxLen at w1; omega⟩

set_option maxRecDepth 100000 in
/-- The three cells of a setting. -/
theorem open_st3 {n : Nat} {cs : List Value} {y : DataW H × List MemPlace} (h : DataW.trod enc Try.prog w base spare held n 51 cs = some y) :
    ∃ e : St, cs = [.int .i64 e.unit, .string e.param, .int .i64 e.lev] ∧ StOk e := by
  obtain ⟨ys, n2, _, _, hcl, hyl, hf⟩ := DataW.trod_struct Try.underlying51 h
  rw [cellsS3] at hcl
  match cs, hcl with
  | [c0, c1, c2], _ =>
    have f0 : DataW.trod enc Try.prog w base spare held n2 35 (([c0, c1, c2].drop 0).take (Try.prog.cellsOf 35)) = ys[0]? := hf 0 _ rfl
    have f1 : DataW.trod enc Try.prog w base spare held n2 3 (([c0, c1, c2].drop 2).take (Try.prog.cellsOf 3)) = ys[1]? := hf 1 _ rfl
    simp only [cellsPI, cellsK2, List.drop_zero, List.take_succ_cons, List.take_zero, List.drop_succ_cons] at f0 f1
    have hyl2 : ys.length = 2 := hyl
    rw [List.getElem?_eq_getElem (by omega)] at f0 f1
    obtain ⟨u, p, e0, w0⟩ := open_key2 f0
    obtain ⟨z1, e1, _, _⟩ := DataW.trod_int Try.underlying3 f1
    simp only [List.cons.injEq, and_true] at e0 e1
    obtain ⟨e0, e0'⟩ := e0
    subst e0 e0' e1
    exact ⟨⟨u, p, z1⟩, rfl, w0⟩

set_option maxRecDepth 100000 in
theorem open_sts {n : Nat} {v : Value} {y : DataW H × List MemPlace} (h : DataW.trod enc Try.prog w base spare held n 45 [v] = some y) : ∃ L, StVal w v L ∧ ∀ s ∈ L, StOk s := by
  rcases open_slice Try.underlying45 h with ⟨hv, _⟩ | ⟨a, len, cap, m, n', D, Pl, hcs, _, hl, hm, hmm, _, hi⟩
  · obtain rfl : v = .slice none 0 0 := by simpa using hv
    exact ⟨[], ⟨none, 0, rfl, by simp, fun h => absurd h (by simp)⟩, fun x hx => by cases hx⟩
  · obtain rfl : v = .slice (some a) len cap := by simpa using hcs
    have hle : len ≤ m := by rw [hmm]; split <;> omega
    have each : ∀ i, i < len → ∃ e : St, w.cell? (a.add (i * 3)) = some (.int .i64 e.unit) ∧ w.cell? ((a.add (i * 3)).add 1) = some (.string e.param) ∧ w.cell? ((a.add (i * 3)).add 2) = some (.int .i64 e.lev) ∧ StOk e := by
      intro i hil
      obtain ⟨cs', h1, h2⟩ := hi i (by omega)
      rw [cellsS3] at h1
      obtain ⟨_, hlen, hget⟩ := World.cells?_some h1
      obtain ⟨e, rfl, he⟩ := open_st3 h2
      refine ⟨e, ?_, hget 1 (by omega), hget 2 (by omega), he⟩
      have := hget 0 (by omega); simpa [Addr.add] using this
    rcases Nat.eq_zero_or_pos len with h0 | h0
    · subst h0
      exact ⟨[], ⟨_, _, rfl, by simp, fun h => absurd h (by simp)⟩, fun x hx => by cases hx⟩
    · obtain ⟨x0, _⟩ := each 0 h0
      have : Inhabited St := ⟨x0⟩
      obtain ⟨f, hf⟩ := choose_lt each
      obtain ⟨b, off, spot⟩ := a
      have hspot : spot = none := by simpa [Addr.add] using World.cell?_spot (hf 0 h0).1
      subst hspot
      have hlen : ((List.range len).map f).length = len := by simp
      refine ⟨(List.range len).map f, ⟨some ⟨b, off, none⟩, cap, by rw [hlen], by rw [hlen]; unfold maxLen at hm; omega, fun _ => ⟨b, off, rfl, fun i hi => ?_⟩⟩, fun x hx => ?_⟩
      · rw [hlen] at hi
        have hget : ((List.range len).map f)[i]'(by rw [hlen]; exact hi) = f i := by simp
        rw [hget]
        obtain ⟨h1, h2, h3, _⟩ := hf i hi
        rw [add_plain] at h1 h2 h3
        rw [add_plain] at h2 h3
        exact ⟨h1, h2, h3⟩
      · obtain ⟨i, hi, rfl⟩ := List.mem_map.1 hx
        exact (hf i (List.mem_range.1 hi)).2.2.2

set_option maxRecDepth 100000 in
/-- The three cells of a preset. -/
theorem open_pr3 {n : Nat} {cs : List Value} {y : DataW H × List MemPlace} (h : DataW.trod enc Try.prog w base spare held n 47 cs = some y) :
    ∃ (e : Pr) (v : Value), cs = [.int .i64 e.num, .string e.title, v] ∧ StVal w v e.sets ∧ PrOk e := by
  obtain ⟨ys, n2, _, _, hcl, hyl, hf⟩ := DataW.trod_struct Try.underlying47 h
  rw [cellsP3] at hcl
  match cs, hcl with
  | [c0, c1, c2], _ =>
    have f0 : DataW.trod enc Try.prog w base spare held n2 3 (([c0, c1, c2].drop 0).take (Try.prog.cellsOf 3)) = ys[0]? := hf 0 _ rfl
    have f1 : DataW.trod enc Try.prog w base spare held n2 9 (([c0, c1, c2].drop 1).take (Try.prog.cellsOf 9)) = ys[1]? := hf 1 _ rfl
    have f2 : DataW.trod enc Try.prog w base spare held n2 45 (([c0, c1, c2].drop 2).take (Try.prog.cellsOf 45)) = ys[2]? := hf 2 _ rfl
    simp only [cellsPI, cellsPS, cellsPL, List.drop_zero, List.take_succ_cons, List.take_zero, List.drop_succ_cons] at f0 f1 f2
    have hyl2 : ys.length = 3 := hyl
    rw [List.getElem?_eq_getElem (by omega)] at f0 f1 f2
    obtain ⟨z0, e0, _, _⟩ := DataW.trod_int Try.underlying3 f0
    obtain ⟨s1, e1, _, w1⟩ := DataW.trod_string Try.underlying9 f1
    obtain ⟨L, hL, hO⟩ := open_sts f2
    simp only [List.cons.injEq, and_true] at e0 e1
    subst e0 e1
    exact ⟨⟨z0, s1, L⟩, c2, rfl, hL, by unfold maxLen at w1; show s1.size ≤ _; omega, hO⟩

set_option maxRecDepth 100000 in
theorem open_prs {n : Nat} {v : Value} {y : DataW H × List MemPlace} (h : DataW.trod enc Try.prog w base spare held n 33 [v] = some y) : ∃ L, PrVal w v L ∧ ∀ p ∈ L, PrOk p := by
  rcases open_slice Try.underlying33 h with ⟨hv, _⟩ | ⟨a, len, cap, m, n', D, Pl, hcs, _, hl, hm, hmm, _, hi⟩
  · obtain rfl : v = .slice none 0 0 := by simpa using hv
    exact ⟨[], ⟨none, 0, rfl, by simp, fun h => absurd h (by simp)⟩, fun x hx => by cases hx⟩
  · obtain rfl : v = .slice (some a) len cap := by simpa using hcs
    have hle : len ≤ m := by rw [hmm]; split <;> omega
    have each : ∀ i, i < len → ∃ e : Pr, w.cell? (a.add (i * 3)) = some (.int .i64 e.num) ∧ w.cell? ((a.add (i * 3)).add 1) = some (.string e.title) ∧ (∃ v, w.cell? ((a.add (i * 3)).add 2) = some v ∧ StVal w v e.sets) ∧ PrOk e := by
      intro i hil
      obtain ⟨cs', h1, h2⟩ := hi i (by omega)
      rw [cellsP3] at h1
      obtain ⟨_, hlen, hget⟩ := World.cells?_some h1
      obtain ⟨e, v', rfl, he, ho⟩ := open_pr3 h2
      refine ⟨e, ?_, hget 1 (by omega), ⟨v', hget 2 (by omega), he⟩, ho⟩
      have := hget 0 (by omega); simpa [Addr.add] using this
    rcases Nat.eq_zero_or_pos len with h0 | h0
    · subst h0
      exact ⟨[], ⟨_, _, rfl, by simp, fun h => absurd h (by simp)⟩, fun x hx => by cases hx⟩
    · obtain ⟨x0, _⟩ := each 0 h0
      have : Inhabited Pr := ⟨x0⟩
      obtain ⟨f, hf⟩ := choose_lt each
      obtain ⟨b, off, spot⟩ := a
      have hspot : spot = none := by simpa [Addr.add] using World.cell?_spot (hf 0 h0).1
      subst hspot
      have hlen : ((List.range len).map f).length = len := by simp
      refine ⟨(List.range len).map f, ⟨some ⟨b, off, none⟩, cap, by rw [hlen], by rw [hlen]; unfold maxLen at hm; omega, fun _ => ⟨b, off, rfl, fun i hi => ?_⟩⟩, fun x hx => ?_⟩
      · rw [hlen] at hi
        have hget : ((List.range len).map f)[i]'(by rw [hlen]; exact hi) = f i := by simp
        rw [hget]
        obtain ⟨h1, h2, ⟨v', h3, h4⟩, _⟩ := hf i hi
        rw [add_plain] at h1 h2 h3
        rw [add_plain] at h2 h3
        exact ⟨h1, h2, v', h3, h4⟩
      · obtain ⟨i, hi, rfl⟩ := List.mem_map.1 hx
        exact (hf i (List.mem_range.1 hi)).2.2.2

set_option maxRecDepth 100000 in
theorem open_presets {r : Reach} {b0 : Nat} {v : Value} {d : DataW H} {p : List MemPlace} (hv : Value.okWide Try.prog w r b0 33 v) (h : DataW.Trod enc Try.prog w base spare held 33 v d p) : ∃ L, PrVal w v L ∧ ∀ p ∈ L, PrOk p := by
  obtain ⟨n, hn⟩ := h
  obtain ⟨o, len, cap, rfl⟩ := okWide_slice Try.underlying33 hv
  exact open_prs hn

set_option maxRecDepth 100000 in
theorem open_key {r : Reach} {b0 : Nat} {v : Value} {d : DataW H} {p : List MemPlace} (hv : Value.okWide Try.prog w r b0 35 v) (h : DataW.Trod enc Try.prog w base spare held 35 v d p) :
    ∃ (x : Int) (s : ByteArray), v = .agg #[.int .i64 x, .string s] ∧ s.size ≤ 9223372036854775807 := by
  obtain ⟨cs, rfl, _⟩ := okWide_struct Try.underlying35 hv
  obtain ⟨n, hn⟩ := h
  obtain ⟨x, s, e, hs⟩ := open_key2 hn
  obtain ⟨cl⟩ := cs
  simp only [Value.cells] at e
  subst e
  exact ⟨x, s, rfl, hs⟩
end
end Go.Proofs.Ytgpblgalklegkaa
