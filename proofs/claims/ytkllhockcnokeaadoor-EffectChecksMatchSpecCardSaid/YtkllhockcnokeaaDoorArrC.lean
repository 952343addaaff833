/- An array that lies in memory as a row lists it, element by element; the table of powers. -/
import Derived.Test.YtkllhockcnokeaaDoorTxk
import Derived.Test.YtkllhockcnokeaaDoorCardL
namespace Go.Proofs.YtkllhockcnokeaaDoor
open Go.RowKit Go.ChangeShapes Go.WideShapes Go.ChangeAt Go.Lib

theorem arr_cells {H : Type} {enc : TypeId × Value → H} {P : Program} {w : World} {base : Nat} {sp : Nat → Bool} {held : Bool} {fuel : Nat} {t e : TypeId} {n m : Nat} {cs : List Value} {Ds : List (DataW H)} {p : List MemPlace}
    (ht : P.underlying t = some (.array n e)) (hce : P.cellsOf e = m) (hct : P.cellsOf t = n * m)
    (h : DataW.trod enc P w base sp held fuel t cs = some (.agg Ds, p)) : cs.length = n * m ∧ Ds.length = n ∧ ∀ i (hi : i < Ds.length), ∃ (f : Nat) (pl : List MemPlace), DataW.trod enc P w base sp held f e ((cs.drop (i * m)).take m) = some (Ds[i], pl) := by
  cases fuel with
  | zero => simp [DataW.trod] at h
  | succ fuel =>
    simp only [DataW.trod, ht, hce, hct] at h
    split at h
    · rename_i hl
      obtain ⟨xs, hm, hx⟩ := Option.map_eq_some_iff.1 h
      have hxs : xs.map (·.1) = Ds := by
        have := congrArg Prod.fst hx
        simpa using this
      have hxl : xs.length = n := by simpa using mapM_length hm
      refine ⟨hl, by rw [← hxs, List.length_map]; exact hxl, fun i hi => ?_⟩
      have hin : i < n := by rw [← hxs, List.length_map, hxl] at hi; exact hi
      obtain ⟨b, hb, hf⟩ := mapM_at hm i i (by simp [hin])
      refine ⟨fuel, b.2, ?_⟩
      rw [hf]
      congr 1
      refine Prod.ext ?_ rfl
      show b.1 = Ds[i]
      have h2 : (xs.map (·.1))[i]? = some b.1 := by simp [hb]
      rw [hxs, List.getElem?_eq_getElem hi] at h2
      exact (Option.some.inj h2).symm
    · cases h

theorem pow_atG {W : World} {rest : List (String × DataW Unit)} (h : laidMet Tryd.prog (("internal/strconv.uint64pow10", Rows.laid_internal_strconv_uint64pow10) :: rest) W) : PowAt W :=
  tabIs_of_head (g := 1) (t := 98) (e := 59) (n := 20) (by kernel_rfl) (by kernel_rfl) Tryd.underlying98 Tryd.underlying59 (by kernel_rfl) (by kernel_rfl) h
end Go.Proofs.YtkllhockcnokeaaDoor
