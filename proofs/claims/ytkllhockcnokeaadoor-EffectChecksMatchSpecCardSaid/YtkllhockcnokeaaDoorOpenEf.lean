/- Effects that come in, opened. -/
import Derived.Test.YtkllhockcnokeaaDoorEfM
import Derived.Test.YtkllhockcnokeaaDoorRowO
namespace Go.Proofs.YtkllhockcnokeaaDoor
open Go.RowKit Go.ChangeShapes Go.WideShapes Go.ChangeAt Go.Deep
section
variable {H : Type} {enc : TypeId × Value → H} {w : World} {base : Nat} {spare : Nat → Bool} {held : Bool}

theorem cellsEI : Tryd.prog.cellsOf 3 = 1 := by kernel_rfl
theorem cellsEB : Tryd.prog.cellsOf 4 = 1 := by kernel_rfl
theorem cellsES : Tryd.prog.cellsOf 38 = 3 := by kernel_rfl
theorem cellsESs : Tryd.prog.cellsOf 22 = 1 := by kernel_rfl
theorem cellsEE : Tryd.prog.cellsOf 24 = 9 := by kernel_rfl

/-- Numbers that are ints. -/
def StpWf (e : Stp) : Prop := (-9223372036854775808 ≤ e.lv ∧ e.lv ≤ 9223372036854775807) ∧ (-9223372036854775808 ≤ e.ho ∧ e.ho ≤ 9223372036854775807) ∧ (-9223372036854775808 ≤ e.fa ∧ e.fa ≤ 9223372036854775807)
def StpC (e : Stp) (cs : List Value) : Prop := cs = [.int .i64 e.lv, .int .i64 e.ho, .int .i64 e.fa] ∧ StpWf e
set_option maxRecDepth 100000 in
theorem open_stp (n : Nat) (cs : List Value) (y : DataW H × List MemPlace) (h : DataW.trod enc Tryd.prog w base spare held n 38 cs = some y) : ∃ e, StpC e cs := by
  obtain ⟨ys, n2, _, _, hcl, hyl, hf⟩ := DataW.trod_struct Tryd.underlying38 h
  rw [cellsES] at hcl
  match cs, hcl with
  | [c0, c1, c2], _ =>
    have f0 : DataW.trod enc Tryd.prog w base spare held n2 3 (([c0, c1, c2].drop 0).take (Tryd.prog.cellsOf 3)) = ys[0]? := hf 0 _ rfl
    have f1 : DataW.trod enc Tryd.prog w base spare held n2 3 (([c0, c1, c2].drop 1).take (Tryd.prog.cellsOf 3)) = ys[1]? := hf 1 _ rfl
    have f2 : DataW.trod enc Tryd.prog w base spare held n2 3 (([c0, c1, c2].drop 2).take (Tryd.prog.cellsOf 3)) = ys[2]? := hf 2 _ rfl
    simp only [cellsEI, List.drop_zero, List.take_succ_cons, List.take_zero, List.drop_succ_cons] at f0 f1 f2
    have hyl2 : ys.length = 3 := hyl
    rw [List.getElem?_eq_getElem (by omega)] at f0 f1 f2
    obtain ⟨z0, e0, _, w0⟩ := DataW.trod_int Tryd.underlying3 f0
    obtain ⟨z1, e1, _, w1⟩ := DataW.trod_int Tryd.underlying3 f1
    obtain ⟨z2, e2, _, w2⟩ := DataW.trod_int Tryd.underlying3 f2
    simp only [List.cons.injEq, and_true] at e0 e1 e2
    subst e0 e1 e2
    exact ⟨⟨z0, z1, z2⟩, rfl, bounds_i64 w0, bounds_i64 w1, bounds_i64 w2⟩
theorem stp_of_row {v : Value} {L : List Stp} (h : RowOf StpC 3 w v L) : StpVal w v L := by
  obtain ⟨o, cap, h1, h2, h3⟩ := h
  refine ⟨o, cap, h1, h2, fun hp => ?_⟩
  obtain ⟨b, off, h4, h5⟩ := h3 hp
  refine ⟨b, off, h4, fun i hi => ?_⟩
  obtain ⟨cs, ⟨rfl, _⟩, _, h6⟩ := h5 i hi
  exact ⟨h6 0 (by omega), h6 1 (by omega), h6 2 (by omega)⟩
set_option maxRecDepth 100000 in
theorem open_stps {n : Nat} {v : Value} {y : DataW H × List MemPlace} (h : DataW.trod enc Tryd.prog w base spare held n 22 [v] = some y) : ∃ L, StpVal w v L ∧ ∀ e ∈ L, StpWf e := by
  obtain ⟨L, h1, h2⟩ := open_rows StpC 22 38 Tryd.underlying22 3 cellsES (by omega) open_stp h
  exact ⟨L, stp_of_row h1, fun e he => by obtain ⟨_, _, h3⟩ := h2 e he; exact h3⟩
/-- An effect's own numbers are ints. -/
def EffWf (e : Eff) : Prop := (-9223372036854775808 ≤ e.frm ∧ e.frm ≤ 9223372036854775807) ∧ (-9223372036854775808 ≤ e.lo ∧ e.lo ≤ 9223372036854775807) ∧ (-9223372036854775808 ≤ e.hi ∧ e.hi ≤ 9223372036854775807) ∧ (-9223372036854775808 ≤ e.cyc ∧ e.cyc ≤ 9223372036854775807) ∧ (-9223372036854775808 ≤ e.wid ∧ e.wid ≤ 9223372036854775807) ∧ (-9223372036854775808 ≤ e.spr ∧ e.spr ≤ 9223372036854775807) ∧ ∀ x ∈ e.st, StpWf x
set_option maxRecDepth 100000 in
/-- The nine cells of an effect. -/
theorem open_eff' {n : Nat} {cs : List Value} {y : DataW H × List MemPlace} (h : DataW.trod enc Tryd.prog w base spare held n 24 cs = some y) :
    ∃ (e : Eff) (v : Value), cs = [.int .i64 e.frm, .int .i64 e.lo, .int .i64 e.hi, .int .i64 e.cyc, .int .i64 e.wid, .int .i64 e.spr, .bool e.bk, .bool e.rl, v] ∧ StpVal w v e.st ∧ EffWf e := by
  obtain ⟨ys, n2, _, _, hcl, hyl, hf⟩ := DataW.trod_struct Tryd.underlying24 h
  rw [cellsEE] at hcl
  match cs, hcl with
  | [c0, c1, c2, c3, c4, c5, c6, c7, c8], _ =>
    have f0 : DataW.trod enc Tryd.prog w base spare held n2 3 (([c0, c1, c2, c3, c4, c5, c6, c7, c8].drop 0).take (Tryd.prog.cellsOf 3)) = ys[0]? := hf 0 _ rfl
    have f1 : DataW.trod enc Tryd.prog w base spare held n2 3 (([c0, c1, c2, c3, c4, c5, c6, c7, c8].drop 1).take (Tryd.prog.cellsOf 3)) = ys[1]? := hf 1 _ rfl
    have f2 : DataW.trod enc Tryd.prog w base spare held n2 3 (([c0, c1, c2, c3, c4, c5, c6, c7, c8].drop 2).take (Tryd.prog.cellsOf 3)) = ys[2]? := hf 2 _ rfl
    have f3 : DataW.trod enc Tryd.prog w base spare held n2 3 (([c0, c1, c2, c3, c4, c5, c6, c7, c8].drop 3).take (Tryd.prog.cellsOf 3)) = ys[3]? := hf 3 _ rfl
    have f4 : DataW.trod enc Tryd.prog w base spare held n2 3 (([c0, c1, c2, c3, c4, c5, c6, c7, c8].drop 4).take (Tryd.prog.cellsOf 3)) = ys[4]? := hf 4 _ rfl
    have f5 : DataW.trod enc Tryd.prog w base spare held n2 3 (([c0, c1, c2, c3, c4, c5, c6, c7, c8].drop 5).take (Tryd.prog.cellsOf 3)) = ys[5]? := hf 5 _ rfl
    have f6 : DataW.trod enc Tryd.prog w base spare held n2 4 (([c0, c1, c2, c3, c4, c5, c6, c7, c8].drop 6).take (Tryd.prog.cellsOf 4)) = ys[6]? := hf 6 _ rfl
    have f7 : DataW.trod enc Tryd.prog w base spare held n2 4 (([c0, c1, c2, c3, c4, c5, c6, c7, c8].drop 7).take (Tryd.prog.cellsOf 4)) = ys[7]? := hf 7 _ rfl
    have f8 : DataW.trod enc Tryd.prog w base spare held n2 22 (([c0, c1, c2, c3, c4, c5, c6, c7, c8].drop 8).take (Tryd.prog.cellsOf 22)) = ys[8]? := hf 8 _ rfl
    simp only [cellsEI, cellsEB, cellsESs, List.drop_zero, List.take_succ_cons, List.take_zero, List.drop_succ_cons] at f0 f1 f2 f3 f4 f5 f6 f7 f8
    have hyl2 : ys.length = 9 := hyl
    rw [List.getElem?_eq_getElem (by omega)] at f0 f1 f2 f3 f4 f5 f6 f7 f8
    obtain ⟨z0, e0, _, w0⟩ := DataW.trod_int Tryd.underlying3 f0
    obtain ⟨z1, e1, _, w1⟩ := DataW.trod_int Tryd.underlying3 f1
    obtain ⟨z2, e2, _, w2⟩ := DataW.trod_int Tryd.underlying3 f2
    obtain ⟨z3, e3, _, w3⟩ := DataW.trod_int Tryd.underlying3 f3
    obtain ⟨z4, e4, _, w4⟩ := DataW.trod_int Tryd.underlying3 f4
    obtain ⟨z5, e5, _, w5⟩ := DataW.trod_int Tryd.underlying3 f5
    obtain ⟨z6, e6, _⟩ := DataW.trod_bool Tryd.underlying4 f6
    obtain ⟨z7, e7, _⟩ := DataW.trod_bool Tryd.underlying4 f7
    obtain ⟨L, hL, hw⟩ := open_stps f8
    simp only [List.cons.injEq, and_true] at e0 e1 e2 e3 e4 e5 e6 e7
    subst e0 e1 e2 e3 e4 e5 e6 e7
    exact ⟨⟨z0, z1, z2, z3, z4, z5, z6, z7, L⟩, c8, rfl, hL, bounds_i64 w0, bounds_i64 w1, bounds_i64 w2, bounds_i64 w3, bounds_i64 w4, bounds_i64 w5, hw⟩
set_option maxRecDepth 100000 in
theorem open_eff {r : Reach} {b0 : Nat} {v : Value} {d : DataW H} {p : List MemPlace} (hv : Value.okWide Tryd.prog w r b0 24 v) (h : DataW.Trod enc Tryd.prog w base spare held 24 v d p) :
    ∃ (e : Eff) (s : Value), v = effV e s ∧ StpVal w s e.st ∧ EffWf e := by
  obtain ⟨cs, rfl, _⟩ := okWide_struct Tryd.underlying24 hv
  obtain ⟨n, hn⟩ := h
  obtain ⟨e, s, h1, h2, h3⟩ := open_eff' hn
  obtain ⟨cl⟩ := cs
  simp only [Value.cells] at h1
  subst h1
  exact ⟨e, s, rfl, h2, h3⟩
end
end Go.Proofs.YtkllhockcnokeaaDoor
