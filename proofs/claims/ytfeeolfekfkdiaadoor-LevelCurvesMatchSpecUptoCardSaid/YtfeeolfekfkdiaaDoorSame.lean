/- sameCurve of the laws: equal where kind and points are. -/
import Derived.Test.YtfeeolfekfkdiaaDoorEqP
namespace Go.Proofs.YtfeeolfekfkdiaaDoor
open Go.RowKit

set_option maxHeartbeats 800000 in
theorem sameCurve_ok (k : Int) (o1 : Option Addr) (n1 c1 : Nat) (o2 : Option Addr) (n2 c2 : Nat) (l : List (Int × Int)) (w : World) (h1 : PtsAny w (.slice o1 n1 c1) l) (h2 : PtsAny w (.slice o2 n2 c2) l) :
    Calls Tryd.prog 29 #[.agg #[.int .i64 k, .slice o1 n1 c1], .agg #[.int .i64 k, .slice o2 n2 c2]] w fun e w' => e = .returned (.bool true) ∧ Bl w w' := by
  have HE := Lib.hid (fun w' (g : Bl w w') => eqPt (.slice o1 n1 c1) (.slice o2 n2 c2) l w' (h1.bl g) (h2.bl g))
  clear h1 h2
  go_enter Tryd.func29, Tryd.ntmps29
  go_wp2_with fail
  refine (HE.out _ (((Bl.refl w).alloc _).alloc _)).mono ?_
  rintro e w1 ⟨rfl, g1⟩
  go_wp2_with fail
  go_returns
  exact ⟨rfl, (((Bl.refl w).alloc _).alloc _).trans g1⟩
end Go.Proofs.YtfeeolfekfkdiaaDoor
