/- Selections that come in, opened. -/
import Derived.Test.YtgpblgalklegkaaDoorPkM
import Derived.Test.YtgpblgalklegkaaDoorLawKit
namespace Go.Proofs.YtgpblgalklegkaaDoor
open Go.RowKit Go.ChangeShapes Go.WideShapes Go.ChangeAt Go.Deep
section
variable {H : Type} {enc : TypeId × Value → H} {w : World} {base : Nat} {spare : Nat → Bool} {held : Bool}

theorem cellsKP : Tryd.prog.cellsOf 24 = 4 := by kernel_rfl
theorem cellsKL : Tryd.prog.cellsOf 22 = 1 := by kernel_rfl
theorem cellsKI : Tryd.prog.cellsOf 3 = 1 := by kernel_rfl

set_option maxRecDepth 100000 in
/-- The four cells of a selection. -/
theorem open_pk4 {n : Nat} {cs : List Value} {y : DataW H × List MemPlace} (ih : ∀ m, m < n → ∀ (v : Value) (y : DataW H × List MemPlace), DataW.trod enc Tryd.prog w base spare held m 22 [v] = some y → ∃ L, PkV w v L)
    (h : DataW.trod enc Tryd.prog w base spare held n 24 cs = some y) : ∃ (p : Pk) (v : Value), cs = [.int .i64 p.kind, .int .i64 p.frm, .int .i64 p.to, v] ∧ PkV w v p.args := by
  obtain ⟨ys, n2, hn, _, hcl, hyl, hf⟩ := DataW.trod_struct Tryd.underlying24 h
  rw [cellsKP] at hcl
  match cs, hcl with
  | [c0, c1, c2, c3], _ =>
    have f0 : DataW.trod enc Tryd.prog w base spare held n2 3 (([c0, c1, c2, c3].drop 0).take (Tryd.prog.cellsOf 3)) = ys[0]? := hf 0 _ rfl
    have f1 : DataW.trod enc Tryd.prog w base spare held n2 3 (([c0, c1, c2, c3].drop 1).take (Tryd.prog.cellsOf 3)) = ys[1]? := hf 1 _ rfl
    have f2 : DataW.trod enc Tryd.prog w base spare held n2 3 (([c0, c1, c2, c3].drop 2).take (Tryd.prog.cellsOf 3)) = ys[2]? := hf 2 _ rfl
    have f3 : DataW.trod enc Tryd.prog w base spare held n2 22 (([c0, c1, c2, c3].drop 3).take (Tryd.prog.cellsOf 22)) = ys[3]? := hf 3 _ rfl
    simp only [cellsKI, cellsKL, List.drop_zero, List.take_succ_cons, List.take_zero, List.drop_succ_cons] at f0 f1 f2 f3
    have hyl2 : ys.length = 4 := hyl
    rw [List.getElem?_eq_getElem (by omega)] at f0 f1 f2 f3
    obtain ⟨z0, e0, _, _⟩ := DataW.trod_int Tryd.underlying3 f0
    obtain ⟨z1, e1, _, _⟩ := DataW.trod_int Tryd.underlying3 f1
    obtain ⟨z2, e2, _, _⟩ := DataW.trod_int Tryd.underlying3 f2
    obtain ⟨L, hL⟩ := ih n2 (by omega) _ _ f3
    simp only [List.cons.injEq, and_true] at e0 e1 e2
    subst e0 e1 e2
    exact ⟨.mk z0 z1 z2 L, c3, rfl, hL⟩

set_option maxRecDepth 100000 in
theorem open_pks : ∀ (n : Nat) (v : Value) (y : DataW H × List MemPlace), DataW.trod enc Tryd.prog w base spare held n 22 [v] = some y → ∃ L, PkV w v L := by
  intro n
  induction n using Nat.strongRecOn with
  | ind n ih =>
    intro v y h
    rcases DataW.trod_slice Tryd.underlying22 h with ⟨hv, _⟩ | ⟨a, len, cap, elems, rest, n', hn, hcs, _, _, hl, hm, hlen, hel, _, _⟩
    · obtain rfl : v = .slice none 0 0 := by simpa using hv
      exact ⟨[], .empty _ _⟩
    · obtain rfl : v = .slice (some a) len cap := by simpa using hcs
      have each : ∀ i, i < len → ∃ x : Pk × Value, w.cell? (a.add (i * 4)) = some (.int .i64 x.1.kind) ∧ w.cell? ((a.add (i * 4)).add 1) = some (.int .i64 x.1.frm) ∧ w.cell? ((a.add (i * 4)).add 2) = some (.int .i64 x.1.to) ∧ w.cell? ((a.add (i * 4)).add 3) = some x.2 ∧ PkV w x.2 x.1.args := by
        intro i hil
        have key := hel i hil
        rw [List.getElem?_eq_getElem (by omega), cellsKP] at key
        obtain ⟨cs', h1, h2⟩ := Option.bind_eq_some_iff.1 key
        obtain ⟨_, hlen', hget⟩ := World.cells?_some h1
        obtain ⟨p, pv, rfl, hp⟩ := open_pk4 (fun m hm' => ih m (by omega)) h2
        refine ⟨(p, pv), ?_, hget 1 (by omega), hget 2 (by omega), hget 3 (by omega), hp⟩
        have := hget 0 (by omega); simpa [Addr.add] using this
      rcases Nat.eq_zero_or_pos len with h0 | h0
      · subst h0
        exact ⟨[], .empty _ _⟩
      · obtain ⟨x0, _⟩ := each 0 h0
        have : Inhabited (Pk × Value) := ⟨x0⟩
        obtain ⟨f, hf⟩ := choose_lt each
        obtain ⟨b, off, spot⟩ := a
        have hspot : spot = none := by simpa [Addr.add] using World.cell?_spot (hf 0 h0).1
        subst hspot
        have hlen2 : ((List.range len).map fun i => (f i).1).length = len := by simp
        refine ⟨(List.range len).map fun i => (f i).1, ?_⟩
        have := PkV.row (w := w) b off cap ((List.range len).map fun i => (f i).1) (fun i => (f i).2) (by omega) (by rw [hlen2]; unfold maxLen at hm; omega) (fun i hi => by
          rw [hlen2] at hi
          have hget : ((List.range len).map fun i => (f i).1)[i]'(by rw [hlen2]; exact hi) = (f i).1 := by simp
          rw [hget]
          obtain ⟨h1, h2, h3, h4, _⟩ := hf i hi
          rw [add_plain] at h1 h2 h3 h4
          rw [add_plain] at h2 h3 h4
          exact ⟨h1, h2, h3, h4⟩) (fun i hi => by
          rw [hlen2] at hi
          have hget : ((List.range len).map fun i => (f i).1)[i]'(by rw [hlen2]; exact hi) = (f i).1 := by simp
          rw [hget]
          exact (hf i hi).2.2.2.2)
        rwa [hlen2] at this

set_option maxRecDepth 100000 in
theorem open_pick {r : Reach} {b0 : Nat} {v : Value} {d : DataW H} {p : List MemPlace} (hv : Value.okWide Tryd.prog w r b0 24 v) (h : DataW.Trod enc Tryd.prog w base spare held 24 v d p) :
    ∃ (q : Pk) (sv : Value), v = .agg #[.int .i64 q.kind, .int .i64 q.frm, .int .i64 q.to, sv] ∧ PkV w sv q.args := by
  obtain ⟨cs, rfl, _⟩ := okWide_struct Tryd.underlying24 hv
  obtain ⟨n, hn⟩ := h
  obtain ⟨q, sv, e, hq⟩ := open_pk4 (fun m _ => open_pks m) hn
  obtain ⟨cl⟩ := cs
  simp only [Value.cells] at e
  subst e
  exact ⟨q, sv, rfl, hq⟩
end
end Go.Proofs.YtgpblgalklegkaaDoor
