/- Package decimal: a text cut at one byte; parts, read and written. -/
import Derived.Test.YtcidldomnifdeaaDoorDecD
import Derived.Test.YtcidldomnifdeaaDoorBs
import Derived.Lib.CutLaws
namespace Go.Proofs.YtcidldomnifdeaaDoor
open Go.RowKit Go.Lib

def cutR (s : ByteArray) (c : UInt8) : Ending := .returned (.tuple #[.string (bs (cut1 c s.data.toList).1), .string (bs (cut1 c s.data.toList).2.1), .bool (cut1 c s.data.toList).2.2])
set_option maxHeartbeats 400000 in
theorem cutl_any (s : ByteArray) (c : UInt8) (w : World) (hs : s.size ≤ 4611686018427387904) :
    Calls Tryd.prog 97 #[.string s, .string ⟨#[c]⟩] w fun e w' => e = cutR s c ∧ Gr w w' := by
  have h1 : (⟨#[c]⟩ : ByteArray).size = 1 := rfl
  have HI := fun w => Tryd.stringslite_Index_one s c w
  rw [← Lib.index_one] at HI
  have hix := Lib.indexB_cases s ⟨#[c]⟩
  unfold cutR
  rw [← cut_one]
  rcases hix with hix | ⟨i, hix, hroom⟩
  · obtain ⟨e1, e2, e3⟩ := Lib.cutB_miss s ⟨#[c]⟩ hix
    have e1 : bs (Lib.cut s.data.toList [c]).1 = s := e1
    have e2 : bs (Lib.cut s.data.toList [c]).2.1 = ByteArray.empty := e2
    have e3 : (Lib.cut s.data.toList [c]).2.2 = false := e3
    rw [e1, e2, e3]
    rw [show Lib.index s.data.toList [c] = -1 from hix] at HI
    clear e1 e2 e3 hix
    go_enter Tryd.func97, Tryd.ntmps97
    go_wp2_with (refine (HI _).mono ?_; rintro e w1 ⟨rfl, rfl⟩)
    go_returns
    exact ⟨rfl, Gr.refl _⟩
  · obtain ⟨e1, e2, e3⟩ := Lib.cutB_hit s ⟨#[c]⟩ i hix
    have e1 : bs (Lib.cut s.data.toList [c]).1 = s.extract 0 i := e1
    have e2 : bs (Lib.cut s.data.toList [c]).2.1 = s.extract (i + 1) s.size := e2
    have e3 : (Lib.cut s.data.toList [c]).2.2 = true := e3
    rw [e1, e2, e3]
    rw [show Lib.index s.data.toList [c] = i from hix] at HI
    have c1 : (0 : Int) ≤ ↑i := by omega
    have c2 : (↑i : Int) ≤ ↑s.size := by omega
    have c3 : (0 : Int) ≤ ↑i + 1 := by omega
    have c4 : (↑i + 1 : Int) ≤ ↑s.size := by omega
    clear e1 e2 e3 hix
    go_enter Tryd.func97, Tryd.ntmps97
    go_wp2_with (refine (HI _).mono ?_; rintro e w1 ⟨rfl, rfl⟩)
    go_region
    all_goals go_wp2
    all_goals go_returns
    all_goals exact ⟨rfl, (Gr.refl _).drew⟩
set_option maxHeartbeats 400000 in
theorem cut_any (s : ByteArray) (c : UInt8) (w : World) (hs : s.size ≤ 4611686018427387904) :
    Calls Tryd.prog 76 #[.string s, .string ⟨#[c]⟩] w fun e w' => e = cutR s c ∧ Gr w w' := by
  have HI := fun w => cutl_any s c w hs
  unfold cutR at HI ⊢
  generalize bs (cut1 c s.data.toList).1 = a at *
  generalize bs (cut1 c s.data.toList).2.1 = b at *
  generalize (cut1 c s.data.toList).2.2 = d at *
  go_enter Tryd.func76, Tryd.ntmps76
  go_wp2_with (refine (HI _).mono ?_; rintro e w1 ⟨rfl, g⟩)
  go_returns
  exact ⟨rfl, g⟩

theorem byte_eq (x : UInt8) (k : UInt8) : (x == k) = ((x.toNat : Int) == (k.toNat : Int)) := by
  rw [Bool.eq_iff_iff]
  simp
  constructor
  · intro h; rw [h]
  · intro h; exact UInt8.toNat_inj.1 (by omega)
theorem byte_ne48 (x : UInt8) : (some x != some 48) = !((x.toNat : Int) == 48) := by
  have := byte_eq x 48
  have e : ((48 : UInt8).toNat : Int) = 48 := rfl
  rw [e] at this
  rw [← this]
  rfl
/-! ReadParts. -/
def partsR (p : Nat) (s : ByteArray) : Ending := .returned (.tuple #[.int .i64 (if partsOk 9 p s.data.toList = true then partsV p s.data.toList else 0), .bool (partsOk 9 p s.data.toList)])
theorem partsR_no {p : Nat} {s : ByteArray} (h : partsOk 9 p s.data.toList = false) : Ending.returned (.tuple #[.int .i64 0, .bool false]) = partsR p s := by unfold partsR; rw [h]; rfl
theorem partsR_ok {p : Nat} {s : ByteArray} (h : partsOk 9 p s.data.toList = true) {v : Int} (hv : v = partsV p s.data.toList) : Ending.returned (.tuple #[.int .i64 v, .bool true]) = partsR p s := by unfold partsR; rw [h, hv]; rfl
theorem full_take_in (p : Nat) (B : List UInt8) (a : Int) (k : Nat) (h : k < B.length) : valF a ((fullD p B).take (k + 1)) = 10 * valF a ((fullD p B).take k) + ((B[k].toNat : Int) - 48) := by
  have e : (fullD p B).take (k + 1) = (fullD p B).take k ++ [B[k]] := by
    unfold fullD
    rw [List.take_succ_eq_append_getElem (by simp; omega), List.getElem_append_left h]
  rw [e, valF_snoc]
theorem full_take_out (p : Nat) (B : List UInt8) (a : Int) (k : Nat) (hk : k < p) (h : B.length ≤ k) : valF a ((fullD p B).take (k + 1)) = 10 * valF a ((fullD p B).take k) := by
  have e : (fullD p B).take (k + 1) = (fullD p B).take k ++ [48] := by
    unfold fullD
    rw [List.take_succ_eq_append_getElem (by simp; omega), List.getElem_append_right h]
    simp
  rw [e, valF_snoc, show ((48 : UInt8).toNat : Int) = 48 from rfl]
  omega
theorem full_bd (p : Nat) (B : List UInt8) (a : Int) (k : Nat) (hp : p ≤ 3) (hk : k < p) (hB : dgs B = true) (a0 : 0 ≤ a) (a1 : a < 1000000000) : 0 ≤ valF a ((fullD p B).take k) ∧ valF a ((fullD p B).take k) ≤ 1000000000000 := by
  have hd := dgs_take_of _ k (fullD_dgs (p := p) hB)
  obtain ⟨h1, h2⟩ := valF_bd hd a0
  have hl : ((fullD p B).take k).length ≤ 3 := by have := List.length_take_le k (fullD p B); omega
  have hp1 := pow10_mono hl
  have hp0 : (0 : Int) ≤ 10 ^ ((fullD p B).take k).length := Int.le_of_lt (Int.pow_pos (by decide))
  have h3 : (a + 1) * 10 ^ ((fullD p B).take k).length ≤ 1000000000 * 10 ^ 3 := Int.mul_le_mul (by omega) hp1 hp0 (by decide)
  exact ⟨Int.le_trans (Int.mul_nonneg a0 hp0) h1, by omega⟩
end Go.Proofs.YtcidldomnifdeaaDoor
