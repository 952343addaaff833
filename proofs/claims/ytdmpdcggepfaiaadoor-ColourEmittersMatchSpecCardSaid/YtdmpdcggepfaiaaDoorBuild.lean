/- build: a colour of three calls. -/
import Derived.Test.YtdmpdcggepfaiaaDoorOwnG
import Derived.Test.YtdmpdcggepfaiaaDoorRet
import Derived.Test.YtdmpdcggepfaiaaDoorProg
import Derived.Handy
import Derived.Lib.Hide
namespace Go.Proofs.YtdmpdcggepfaiaaDoor
open Go.RowKit Go.Sort

set_option maxRecDepth 100000 in
set_option maxHeartbeats 1600000 in
theorem build_any (G : FuncId) (caps : Array Value) (x y z : Int) (w : World) (eg : ∀ args w, (callFunc G args).run Tryd.prog w = .ok (.enter G args) w)
    (h1 : ∀ w1, Gr w w1 → Calls Tryd.prog G (#[.func (.func 119) #[] #[]] ++ caps) w1 fun e w' => e = .returned (.int .i64 x) ∧ Gr w1 w')
    (h2 : ∀ w1, Gr w w1 → Calls Tryd.prog G (#[.func (.func 120) #[] #[]] ++ caps) w1 fun e w' => e = .returned (.int .i64 y) ∧ Gr w1 w')
    (h3 : ∀ w1, Gr w w1 → Calls Tryd.prog G (#[.func (.func 121) #[] #[]] ++ caps) w1 fun e w' => e = .returned (.int .i64 z) ∧ Gr w1 w') :
    Calls Tryd.prog 87 #[.func (.func G) #[] caps] w fun e w' => e = .returned (.agg #[.int .i64 x, .int .i64 y, .int .i64 z]) ∧ Gr w w' := by
  have H1 := Lib.hid h1
  have H2 := Lib.hid h2
  have H3 := Lib.hid h3
  clear h1 h2 h3
  go_enter Tryd.func87, Tryd.ntmps87
  go_wp2_with fail
  refine (H1.out _ ((Gr.refl w).alloc _)).mono ?_
  rintro e w1 ⟨rfl, g1⟩
  go_wp2_with fail
  refine (H2.out _ (((Gr.refl w).alloc _).trans g1)).mono ?_
  rintro e w2 ⟨rfl, g2⟩
  go_wp2_with fail
  refine (H3.out _ ((((Gr.refl w).alloc _).trans g1).trans g2)).mono ?_
  rintro e w3 ⟨rfl, g3⟩
  obtain ⟨⟨k0, k1, k2⟩, f0, f1, f2⟩ := own3g (n := w.heap.size) rfl ((g1.trans g2).trans g3)
  go_wp2_with fail
  refine bodyPost_ret (v := .agg #[.int .i64 x, .int .i64 y, .int .i64 z]) ?_ rfl ⟨rfl, ?_⟩
  · simp [results, Tryd.results87, go_sem, k0, k1, k2]
  · exact set3g (Nat.le_refl _) (((((Gr.refl w).alloc _).trans g1).trans g2).trans g3) _ _ _

end Go.Proofs.YtdmpdcggepfaiaaDoor
