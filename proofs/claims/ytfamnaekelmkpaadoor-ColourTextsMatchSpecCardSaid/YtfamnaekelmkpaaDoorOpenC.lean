/- Colours and tones that come in, opened: structs of three ints. -/
import Derived.Test.YtfamnaekelmkpaaDoorShelf
import Derived.Test.YtfamnaekelmkpaaDoorLawKit
import Derived.Lib.SmallJoins
namespace Go.Proofs.YtfamnaekelmkpaaDoor
open Go.RowKit Go.ChangeShapes Go.WideShapes Go.ChangeAt Go.Deep
section
variable {H : Type} {enc : TypeId × Value → H} {w : World} {base : Nat} {spare : Nat → Bool} {held : Bool}
/-- An int of 64 bits. -/
def J64 (n : Int) : Prop := -9223372036854775808 ≤ n ∧ n ≤ 9223372036854775807
theorem j64_of {n : Int} (h : (Lit.int .i64 n).wf = true) : J64 n := by
  have := bounds_i64 h
  unfold J64
  omega
theorem open_int1 {n : Nat} {v : Value} {y : DataW H × List MemPlace} (h : DataW.trod enc Tryd.prog w base spare held n 3 [v] = some y) : ∃ a, v = .int .i64 a ∧ J64 a := by
  obtain ⟨z, e, _, hw⟩ := DataW.trod_int Tryd.underlying3 h
  simp only [List.cons.injEq, and_true] at e
  exact ⟨z, e, j64_of hw⟩
set_option maxRecDepth 100000 in
theorem open_colour {r : Reach} {b0 : Nat} {v : Value} {d : DataW H} {p : List MemPlace} (hv : Value.okWide Tryd.prog w r b0 23 v) (h : DataW.Trod enc Tryd.prog w base spare held 23 v d p) :
    ∃ (x y z : Int), v = .agg #[.int .i64 x, .int .i64 y, .int .i64 z] ∧ J64 x ∧ J64 y ∧ J64 z := by
  obtain ⟨v0, v1, v2, y0, y1, y2, n, rfl, _, _, g0, g1, g2⟩ := Go.Joins.open_agg3 Tryd.underlying23 (by kernel_rfl) (by kernel_rfl) hv h
  obtain ⟨a, rfl, ha⟩ := open_int1 g0
  obtain ⟨b, rfl, hb⟩ := open_int1 g1
  obtain ⟨c, rfl, hc⟩ := open_int1 g2
  exact ⟨a, b, c, rfl, ha, hb, hc⟩
end
end Go.Proofs.YtfamnaekelmkpaaDoor
