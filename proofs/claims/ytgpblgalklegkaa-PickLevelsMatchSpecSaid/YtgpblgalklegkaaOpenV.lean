/- Values of moves that come in, opened. -/
import Derived.Test.YtgpblgalklegkaaLawKit
import Derived.Test.YtgpblgalklegkaaShelf
namespace Go.Proofs.Ytgpblgalklegkaa
open Go.RowKit Go.ChangeShapes Go.WideShapes Go.ChangeAt Go.Deep
section
variable {H : Type} {enc : TypeId × Value → H} {w : World} {base : Nat} {spare : Nat → Bool} {held : Bool}
theorem cellsV2 : Try.prog.cellsOf 37 = 2 := by kernel_rfl
theorem cellsVI : Try.prog.cellsOf 3 = 1 := by kernel_rfl

set_option maxRecDepth 100000 in
theorem open_value {r : Reach} {b0 : Nat} {v : Value} {d : DataW H} {p : List MemPlace} (hv : Value.okWide Try.prog w r b0 37 v) (h : DataW.Trod enc Try.prog w base spare held 37 v d p) :
    ∃ (x y : Int), v = .agg #[.int .i64 x, .int .i64 y] := by
  obtain ⟨cs, rfl, _⟩ := okWide_struct Try.underlying37 hv
  obtain ⟨n, h⟩ := h
  obtain ⟨cl⟩ := cs
  simp only [Value.cells] at h
  obtain ⟨ys, n2, _, _, hcl, hyl, hf⟩ := DataW.trod_struct Try.underlying37 h
  rw [cellsV2] at hcl
  match cl, hcl with
  | [c0, c1], _ =>
    have f0 : DataW.trod enc Try.prog w base spare held n2 3 (([c0, c1].drop 0).take (Try.prog.cellsOf 3)) = ys[0]? := hf 0 _ rfl
    have f1 : DataW.trod enc Try.prog w base spare held n2 3 (([c0, c1].drop 1).take (Try.prog.cellsOf 3)) = ys[1]? := hf 1 _ rfl
    simp only [cellsVI, List.drop_zero, List.take_succ_cons, List.take_zero, List.drop_succ_cons] at f0 f1
    have hyl2 : ys.length = 2 := hyl
    rw [List.getElem?_eq_getElem (by omega)] at f0 f1
    obtain ⟨z0, e0, _, _⟩ := DataW.trod_int Try.underlying3 f0
    obtain ⟨z1, e1, _, _⟩ := DataW.trod_int Try.underlying3 f1
    simp only [List.cons.injEq, and_true] at e0 e1
    subst e0 e1
    exact ⟨z0, z1, rfl⟩
end
end Go.Proofs.Ytgpblgalklegkaa
