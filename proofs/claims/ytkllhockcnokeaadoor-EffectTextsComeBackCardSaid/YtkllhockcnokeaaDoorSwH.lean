/- What a drawn region keeps may be exchanged for something stronger half-way. -/
import Derived.Test.YtkllhockcnokeaaDoorRet
import Derived.Test.YtkllhockcnokeaaDoorProg
import Derived.WalkKit
import Derived.Deep.RegionHeld3
namespace Go.Proofs.YtkllhockcnokeaaDoor
open Go.RowKit Go.Sort

theorem wpAnyH_switch {P : Program} {md : Region.Mode} {ops : Array Oper} {Q : Exit → Act → World → Prop} {S S2 : World → Prop} (h : ∀ w, S2 w → S w) : ∀ (fuel : Nat) (listed : Array Bool) (a : Act) (w : World), wpAnyH P md ops Q S2 fuel listed a w → wpAnyH P md ops Q S fuel listed a w
  | 0, _, _, _, H => H
  | fuel + 1, _, _, _, H => ⟨H.1, fun i hi => wpOp_mono (fun _ w' h' => ⟨h w' h'.1, wpAnyH_switch h fuel _ _ _ h'.2⟩) (H.2 i hi)⟩

end Go.Proofs.YtkllhockcnokeaaDoor
