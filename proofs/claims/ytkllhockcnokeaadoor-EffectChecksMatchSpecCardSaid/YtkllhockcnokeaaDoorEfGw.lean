/- The table of the forms' words, out of what a row lists. -/
import Derived.Test.YtkllhockcnokeaaDoorEfTp
import Derived.Test.YtkllhockcnokeaaDoorArrC
namespace Go.Proofs.YtkllhockcnokeaaDoor
open Go.RowKit Go.ChangeShapes Go.WideShapes Go.ChangeAt Go.Lib

def tbF : List (List UInt8) := [[], [116, 114, 105, 97, 110, 103, 108, 101], [117, 112], [100, 111, 119, 110], [115, 113, 117, 97, 114, 101], [115, 111, 102, 116], [99, 104, 97, 110, 99, 101], [115, 116, 101, 112, 115]]
theorem laid_tbF {H : Type} : (Rows.laid_cyclorama_effect_formWords : DataW H) = .agg (tbF.map fun x => .lit (.string x)) := rfl
theorem cellsFw1 : Tryd.prog.cellsOf 9 = 1 := by kernel_rfl
theorem cellsFw8 : Tryd.prog.cellsOf 35 = 8 * 1 := by kernel_rfl
set_option maxRecDepth 100000 in
theorem fw_at {W : World} {rest : List (String × DataW Unit)} (h : laidMet Tryd.prog (("cyclorama/effect.formWords", Rows.laid_cyclorama_effect_formWords) :: rest) W) : FwAt W := by
  obtain ⟨ps, ⟨g', t', cs, fuel, p, q, hg', ht', hvar, hd, _, _⟩, _⟩ := h
  have hg : Tryd.prog.globalNamed "cyclorama/effect.formWords" = some 0 := by kernel_rfl
  have ht : (Tryd.prog.globals[0]?).map (·.type) = some 35 := by kernel_rfl
  obtain rfl := Option.some.inj (hg.symm.trans hg')
  obtain rfl := Option.some.inj (ht.symm.trans ht')
  rw [laid_tbF] at hd
  obtain ⟨hl, hD, hel⟩ := arr_cells Tryd.underlying35 cellsFw1 cellsFw8 hd
  intro k h9
  have hk : k < (tbF.map fun x => (DataW.lit (.string x) : DataW Unit)).length := by rw [List.length_map]; show k < 8; omega
  obtain ⟨f, pl, hf⟩ := hel k hk
  rw [List.getElem_map] at hf
  obtain ⟨s, hc, hy, _⟩ := DataW.trod_string Tryd.underlying9 hf
  have hs : s.data.toList = tbF[k]'(by simpa using hk) := by
    have := congrArg Prod.fst hy
    simpa using this.symm
  have hx : tbF[k]'(by simpa using hk) = fW k := by
    have key : k = 0 ∨ k = 1 ∨ k = 2 ∨ k = 3 ∨ k = 4 ∨ k = 5 ∨ k = 6 ∨ k = 7 := by omega
    rcases key with rfl | rfl | rfl | rfl | rfl | rfl | rfl | rfl <;> rfl
  have hb : bs (fW k) = s := by rw [← hx, ← hs, bs_of]
  rw [World.var?_cell hg hvar k, hb]
  have := congrArg (·[0]?) hc
  simpa [← Array.getElem?_toList] using this
end Go.Proofs.YtkllhockcnokeaaDoor
