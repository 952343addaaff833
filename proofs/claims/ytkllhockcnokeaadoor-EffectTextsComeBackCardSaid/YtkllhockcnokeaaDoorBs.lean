/- Texts of bytes. -/
import Derived.Test.YtkllhockcnokeaaDoorTxM
import Derived.Test.YtkllhockcnokeaaDoorShelf
namespace Go.Proofs.YtkllhockcnokeaaDoor
open Go.RowKit Go.Lib

theorem lst_len (s : ByteArray) : s.data.toList.length = s.size := by rw [Array.length_toList]; rfl
def bs (l : List UInt8) : ByteArray := ⟨l.toArray⟩
theorem bs_list (l : List UInt8) : (bs l).data.toList = l := by unfold bs; simp
theorem bs_size (l : List UInt8) : (bs l).size = l.length := by rw [← lst_len, bs_list]
theorem bs_of (s : ByteArray) : bs s.data.toList = s := Lib.mk_data s

end Go.Proofs.YtkllhockcnokeaaDoor
