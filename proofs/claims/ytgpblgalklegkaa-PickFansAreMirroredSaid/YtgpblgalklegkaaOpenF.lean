/- Fans that come in, opened. -/
import Derived.Test.YtgpblgalklegkaaLawKit
import Derived.Test.YtgpblgalklegkaaShelf
import Derived.Test.YtgpblgalklegkaaBl
namespace Go.Proofs.Ytgpblgalklegkaa
open Go.RowKit Go.ChangeShapes Go.WideShapes Go.ChangeAt Go.Deep
section
variable {H : Type} {enc : TypeId × Value → H} {w : World} {base : Nat} {spare : Nat → Bool} {held : Bool}
theorem cellsF3 : Try.prog.cellsOf 24 = 3 := by kernel_rfl
theorem cellsFI : Try.prog.cellsOf 3 = 1 := by kernel_rfl
theorem cellsFL : Try.prog.cellsOf 22 = 1 := by kernel_rfl

set_option maxRecDepth 100000 in
theorem open_slv {n : Nat} {v : Value} {y : DataW H × List MemPlace} (h : DataW.trod enc Try.prog w base spare held n 22 [v] = some y) : ∃ xs, Slc w v xs := by
  rcases open_ints Try.underlying22 Try.underlying3 cellsFI h with ⟨hv, _⟩ | ⟨a, len, cap, zs, hcs, _, hl, hm, hz, _, hi, _⟩
  · obtain rfl : v = .slice none 0 0 := by simpa using hv
    exact ⟨[], slc_nil w _ _ (by omega)⟩
  · obtain rfl : v = .slice (some a) len cap := by simpa using hcs
    unfold maxLen at hm
    have hle : len ≤ zs.length := by rw [hz]; split <;> omega
    have hlt : (zs.take len).length = len := by rw [List.length_take]; omega
    rcases Nat.eq_zero_or_pos len with h0 | h0
    · subst h0
      exact ⟨[], slc_nil w _ _ (by omega)⟩
    · obtain ⟨b, off, spot⟩ := a
      have h1 := hi 0 (by omega)
      have hspot : spot = none := by simpa [Addr.add] using World.cell?_spot h1
      subst hspot
      refine ⟨zs.take len, ?_⟩
      have := Slc.mk (w := w) (b := b) (off := off) (cap := cap) (xs := zs.take len) (by omega) (by omega) (fun i hi' => by
        rw [hlt] at hi'
        have := hi i (by omega)
        rw [add_plain] at this
        rw [this, List.getElem?_take, if_pos hi', List.getD_eq_getElem?_getD])
      rwa [hlt] at this

set_option maxRecDepth 100000 in
theorem open_fan {r : Reach} {b0 : Nat} {v : Value} {d : DataW H} {p : List MemPlace} (hv : Value.okWide Try.prog w r b0 24 v) (h : DataW.Trod enc Try.prog w base spare held 24 v d p) :
    ∃ (sv : Value) (B W : Int) (xs : List Int), v = .agg #[sv, .int .i64 B, .int .i64 W] ∧ Slc w sv xs := by
  obtain ⟨cs, rfl, _⟩ := okWide_struct Try.underlying24 hv
  obtain ⟨n, h⟩ := h
  obtain ⟨cl⟩ := cs
  simp only [Value.cells] at h
  obtain ⟨ys, n2, _, _, hcl, hyl, hf⟩ := DataW.trod_struct Try.underlying24 h
  rw [cellsF3] at hcl
  match cl, hcl with
  | [c0, c1, c2], _ =>
    have f0 : DataW.trod enc Try.prog w base spare held n2 22 (([c0, c1, c2].drop 0).take (Try.prog.cellsOf 22)) = ys[0]? := hf 0 _ rfl
    have f1 : DataW.trod enc Try.prog w base spare held n2 3 (([c0, c1, c2].drop 1).take (Try.prog.cellsOf 3)) = ys[1]? := hf 1 _ rfl
    have f2 : DataW.trod enc Try.prog w base spare held n2 3 (([c0, c1, c2].drop 2).take (Try.prog.cellsOf 3)) = ys[2]? := hf 2 _ rfl
    simp only [cellsFI, cellsFL, List.drop_zero, List.take_succ_cons, List.take_zero, List.drop_succ_cons] at f0 f1 f2
    have hyl2 : ys.length = 3 := hyl
    rw [List.getElem?_eq_getElem (by omega)] at f0 f1 f2
    obtain ⟨xs, hx⟩ := open_slv f0
    obtain ⟨z1, e1, _, _⟩ := DataW.trod_int Try.underlying3 f1
    obtain ⟨z2, e2, _, _⟩ := DataW.trod_int Try.underlying3 f2
    simp only [List.cons.injEq, and_true] at e1 e2
    subst e1 e2
    exact ⟨c0, z1, z2, xs, rfl, hx⟩
end
end Go.Proofs.Ytgpblgalklegkaa
