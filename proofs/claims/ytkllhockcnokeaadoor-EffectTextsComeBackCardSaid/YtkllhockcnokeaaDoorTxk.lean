/- Numbers as texts, sums of texts, in a world that holds the table of powers. -/
import Derived.Test.YtkllhockcnokeaaDoorTxF
import Derived.Test.YtkllhockcnokeaaDoorLvT
import Derived.Test.YtkllhockcnokeaaDoorItoa
import Derived.Lib.ItoaLen
namespace Go.Proofs.YtkllhockcnokeaaDoor
open Go.RowKit Go.Sort Go.Lib

def PowAt (w : World) : Prop := TabIs Tryd.prog w "internal/strconv.uint64pow10" .u64 pow10Tab
theorem PowAt.bl {w w' : World} (h : PowAt w) (g : Bl w w') : PowAt w' := tab_bl h g
theorem itoa_bl (n : Int) (w : World) (h0 : 0 ≤ n) (h1 : n ≤ 65535) (ht : PowAt w) :
    Calls Tryd.prog 15 #[.int .i64 n] w fun e w' => e = .returned (.string (bs (decDigits n.toNat))) ∧ Bl w w' := by
  refine (itoa_any n w h0 (by omega) ht).mono ?_
  rintro e w' ⟨rfl, hw⟩
  exact ⟨rfl, hw.bl⟩
theorem sum_ok {a b : ByteArray} {m n : Nat} (ha : a.size ≤ m) (hb : b.size ≤ n) (h : m + n ≤ 10000000) : (∀ w, (Op.stringOp .add a b).run Tryd.prog w = .ok (.string (a ++ b)) w) ∧ (a ++ b).size ≤ m + n :=
  ⟨fun w => run_string_add_sum w _ _ (by omega), by rw [ByteArray.size_append]; omega⟩
theorem app_list (a b : ByteArray) : (a ++ b).data.toList = a.data.toList ++ b.data.toList := by
  rw [ByteArray.data_append, Array.toList_append]
theorem bs_eq {S : ByteArray} {l : List UInt8} (h : S.data.toList = l) : S = bs l := by rw [← h, bs_of]
/-- Any int as a text. -/
theorem itoa_z (n : Int) (w : World) (h0 : -9223372036854775808 ≤ n) (h1 : n ≤ 9223372036854775807) (ht : PowAt w) :
    Calls Tryd.prog 15 #[.int .i64 n] w fun e w' => e = .returned (.string (bs (Lib.itoa n))) ∧ Bl w w' := by
  refine (Tryd.strconv_Itoa n h0 h1 w ht).mono ?_
  rintro e w' ⟨rfl, hw⟩
  exact ⟨rfl, (Gr.of_grow hw).bl⟩
end Go.Proofs.YtkllhockcnokeaaDoor
