/- What the rows of texts of colours list: the place in the table of zeros, the library's error of form. -/
import Derived.Test.YtfamnaekelmkpaaDoorHexC
import Derived.Test.YtfamnaekelmkpaaDoorHexS
import Derived.Test.YtfamnaekelmkpaaDoorCardL
namespace Go.Proofs.YtfamnaekelmkpaaDoor
open Go.RowKit Go.ChangeShapes Go.WideShapes Go.ChangeAt Go.Lib

def tabDb : List Int := [0, 1, 56, 2, 57, 49, 28, 3, 61, 58, 42, 50, 38, 29, 17, 4, 62, 47, 59, 36, 45, 43, 51, 22, 53, 39, 33, 30, 24, 18, 12, 5, 63, 55, 48, 27, 60, 41, 37, 16, 46, 35, 44, 21, 52, 32, 23, 11, 54, 26, 40, 15, 34, 20, 31, 10, 25, 14, 19, 9, 13, 8, 7, 6]
theorem laid_tabDb : (Rows.laid_math_bits_deBruijn64tab : DataW Unit) = tabData .u8 tabDb := rfl
theorem db_at {W : World} {rest : List (String × DataW Unit)} (h : laidMet Tryd.prog (("math/bits.deBruijn64tab", Rows.laid_math_bits_deBruijn64tab) :: rest) W) : DbAt W := by
  rw [laid_tabDb] at h
  have ht := tabIs_of_head (g := 5) (t := 159) (e := 5) (n := 64) (by kernel_rfl) (by kernel_rfl) Tryd.underlying159 Tryd.underlying5 (by kernel_rfl) (by kernel_rfl) h
  unfold TabIs at ht
  have hg : Tryd.prog.globalNamed "math/bits.deBruijn64tab" = some 5 := by kernel_rfl
  exact World.var?_cell hg ht 15
theorem star_row (u : TypeId) (h : Tryd.prog.typeName? 3 u = some "*errors.errorString") : u = 146 :=
  typeName_ptr_named (nm := "errors.errorString") (by kernel_rfl) (by kernel_rfl) (by decide) u h
theorem ev_at {W : World} {rest : List (String × DataW Unit)} (h : laidMet Tryd.prog (("strconv.ErrSyntax", Rows.laid_strconv_ErrSyntax) :: rest) W) : EvAt W := by
  have hg : Tryd.prog.globalNamed "strconv.ErrSyntax" = some 0 := by kernel_rfl
  obtain ⟨a, s, hv, _, _, _⟩ := laid_sentinel (g := 0) (ti := 51) (tp := 146) (te := 148) (ts := 9) h hg (by kernel_rfl) Tryd.underlying51 star_row Tryd.underlying146 Tryd.underlying148 rfl rfl Tryd.underlying9 (by kernel_rfl) (by kernel_rfl)
  exact ⟨_, World.var?_cell hg hv 0, .inr ⟨_, _, rfl⟩⟩
end Go.Proofs.YtfamnaekelmkpaaDoor
