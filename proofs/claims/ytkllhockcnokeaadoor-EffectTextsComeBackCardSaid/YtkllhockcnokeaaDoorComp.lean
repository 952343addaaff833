/- The components of a colour; calls that only lay new blocks, within a quiet region. -/
import Derived.Test.YtkllhockcnokeaaDoorRet
import Derived.Test.YtkllhockcnokeaaDoorProg
import Derived.Handy
import Derived.Lib.Hide
import Derived.Shelf.SlSortCmp.QuietGrown
namespace Go.Proofs.YtkllhockcnokeaaDoor
open Go.RowKit Go.Sort

theorem grown_of {f : FuncId} {args : Array Value} {w : World} {n : Nat} {os : Array Obj} {v : Value}
    (h : Calls Tryd.prog f args (Go.Sort.grow (w.drewN n) os) fun e w' => e = .returned v ∧ Gr (Go.Sort.grow (w.drewN n) os) w') : Calls Tryd.prog f args (Go.Sort.grow (w.drewN n) os) fun e w'' => e = .returned v ∧ ∃ p : GrownBy, w'' = Go.Sort.grow (w.drewN p.n) p.os :=
  Calls.grown_of (h.mono fun _ _ ⟨he, hg⟩ => ⟨he, hg.out⟩)

end Go.Proofs.YtkllhockcnokeaaDoor
