/- Numbers as texts: strconv.Itoa. -/
import Derived.Test.YtkllhockcnokeaaDoorBs
import Derived.Test.YtkllhockcnokeaaDoorTabB
namespace Go.Proofs.YtkllhockcnokeaaDoor
open Go.RowKit Go.Lib

theorem itoa_nat (n : Int) (h : 0 ≤ n) : Lib.itoa n = decDigits n.toNat := by unfold Lib.itoa; rw [if_neg (by omega)]
theorem itoa_any (n : Int) (w : World) (h0 : 0 ≤ n) (h1 : n ≤ 9223372036854775807) (ht : TabIs Tryd.prog w "internal/strconv.uint64pow10" .u64 pow10Tab) :
    Calls Tryd.prog 15 #[.int .i64 n] w fun e w' => e = .returned (.string (bs (decDigits n.toNat))) ∧ Gr w w' := by
  refine (Tryd.strconv_Itoa n (by omega) h1 w ht).mono ?_
  rintro e w' ⟨rfl, hw⟩
  exact ⟨by rw [itoa_nat n h0]; rfl, Gr.of_grow hw⟩
theorem bs_app (a b : List UInt8) : bs a ++ bs b = bs (a ++ b) := by
  apply Go.WideShapes.bytes_inj
  rw [bs_list]
  simp [bs]
theorem dd_len (u k : Nat) (hk : 1 ≤ k) (h : u < 10 ^ k) : (decDigits u).length ≤ k := by rw [decDigits_length]; exact nDigits_lt hk h
end Go.Proofs.YtkllhockcnokeaaDoor
