/- The components of a colour; calls that only lay new blocks, within a quiet region. -/
import Derived.Test.YtdmpdcggepfaiaaDoorRet
import Derived.Test.YtdmpdcggepfaiaaDoorProg
import Derived.Handy
import Derived.Lib.Hide
import Derived.Shelf.SlSortCmp.QuietGrown
namespace Go.Proofs.YtdmpdcggepfaiaaDoor
open Go.RowKit Go.Sort

theorem grown_of {f : FuncId} {args : Array Value} {w : World} {n : Nat} {os : Array Obj} {v : Value}
    (h : Calls Tryd.prog f args (Go.Sort.grow (w.drewN n) os) fun e w' => e = .returned v ∧ Gr (Go.Sort.grow (w.drewN n) os) w') : Calls Tryd.prog f args (Go.Sort.grow (w.drewN n) os) fun e w'' => e = .returned v ∧ ∃ p : GrownBy, w'' = Go.Sort.grow (w.drewN p.n) p.os :=
  Calls.grown_of (h.mono fun _ _ ⟨he, hg⟩ => ⟨he, hg.out⟩)

set_option maxHeartbeats 400000 in
theorem red_any (r g b : Int) (w : World) : Calls Tryd.prog 119 #[.agg #[.int .i64 r, .int .i64 g, .int .i64 b]] w fun e w' => e = .returned (.int .i64 r) ∧ Gr w w' := by
  go_enter Tryd.func119, Tryd.ntmps119
  go_wp2
  go_returns
  exact ⟨rfl, (Gr.refl w).alloc _⟩
set_option maxHeartbeats 400000 in
theorem green_any (r g b : Int) (w : World) : Calls Tryd.prog 120 #[.agg #[.int .i64 r, .int .i64 g, .int .i64 b]] w fun e w' => e = .returned (.int .i64 g) ∧ Gr w w' := by
  go_enter Tryd.func120, Tryd.ntmps120
  go_wp2
  go_returns
  exact ⟨rfl, (Gr.refl w).alloc _⟩
set_option maxHeartbeats 400000 in
theorem blue_any (r g b : Int) (w : World) : Calls Tryd.prog 121 #[.agg #[.int .i64 r, .int .i64 g, .int .i64 b]] w fun e w' => e = .returned (.int .i64 b) ∧ Gr w w' := by
  go_enter Tryd.func121, Tryd.ntmps121
  go_wp2
  go_returns
  exact ⟨rfl, (Gr.refl w).alloc _⟩

end Go.Proofs.YtdmpdcggepfaiaaDoor
