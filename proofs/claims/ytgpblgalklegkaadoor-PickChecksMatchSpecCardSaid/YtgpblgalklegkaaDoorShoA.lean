/- showArgs of the program: the texts of the Args, joined. -/
import Derived.Test.YtgpblgalklegkaaDoorTxtM
import Derived.Test.YtgpblgalklegkaaDoorOwnS
import Derived.Test.YtgpblgalklegkaaDoorLibJ
namespace Go.Proofs.YtgpblgalklegkaaDoor
open Go.RowKit Go.Lib Go.Sort

/-- The table of the words lies in memory. -/
def KwAt (w : World) : Prop := ∀ k : Nat, k ≤ 9 → w.cell? ⟨0, k, none⟩ = some (.string (bs (kWord k)))
theorem KwAt.bl {w w' : World} (h : KwAt w) (g : Bl w w') : KwAt w' := fun k hk => g.cell (h k hk)
def PowAt (w : World) : Prop := TabIs Tryd.prog w "internal/strconv.uint64pow10" .u64 pow10Tab
theorem PowAt.bl {w w' : World} (h : PowAt w) (g : Bl w w') : PowAt w' := tab_bl h g
/-- What show gives. -/
def ShowOk (d : Nat) : Prop := ∀ (p : Pk) (sv : Value) (w : World), Good d p → PkV w sv p.args → PowAt w → KwAt w →
    Calls Tryd.prog 29 #[.agg #[.int .i64 p.kind, .int .i64 p.frm, .int .i64 p.to, sv]] w fun e w' => e = .returned (.string (bs (txt d p))) ∧ Bl w w'

set_option maxHeartbeats 1600000 in
theorem hasBr_any (k a : Int) (i : Nat) (v : Bool) (h : hasBr k i a = v) (w : World) :
    Calls Tryd.prog 100 #[.int .i64 k, .int .i64 i, .int .i64 a] w fun e w' => e = .returned (.bool v) ∧ w = w' := by
  subst h
  have ka : (a = 4) ∨ (a ≠ 4 ∧ a = 5) ∨ (a ≠ 4 ∧ a ≠ 5) := by omega
  have kk : (k = 4) ∨ (k ≠ 4 ∧ k = 5) ∨ (k ≠ 4 ∧ k ≠ 5) := by omega
  have ki : i = 0 ∨ 0 < i := by omega
  rcases ka with a1 | ⟨a1, a2⟩ | ⟨a1, a2⟩ <;> rcases kk with k1 | ⟨k1, k2⟩ | ⟨k1, k2⟩ <;> rcases ki with i1 | i1
  · subst a1
    subst k1
    subst i1
    have e : Hid (hasBr 4 0 4 = true) := by show _ = _; unfold hasBr; (repeat' split) <;> first | rfl | (exfalso; omega) | (simp; omega)
    go_enter Tryd.func100, Tryd.ntmps100
    go_wp2_with fail
    go_returns
    exact ⟨ret_bool e.out.symm, rfl⟩
  · subst a1
    subst k1
    have I1 : ((i : Int) == 0) = false := by rw [beq_eq_false_iff_ne]; omega
    have e : Hid (hasBr 4 i 4 = true) := by show _ = _; unfold hasBr; (repeat' split) <;> first | rfl | (exfalso; omega) | (simp; omega)
    go_enter Tryd.func100, Tryd.ntmps100
    go_wp2_with fail
    go_returns
    exact ⟨ret_bool e.out.symm, rfl⟩
  · subst a1
    subst k2
    subst i1
    have e : Hid (hasBr 5 0 4 = false) := by show _ = _; unfold hasBr; (repeat' split) <;> first | rfl | (exfalso; omega) | (simp; omega)
    go_enter Tryd.func100, Tryd.ntmps100
    go_wp2_with fail
    go_returns
    exact ⟨ret_bool e.out.symm, rfl⟩
  · subst a1
    subst k2
    have I1 : ((i : Int) == 0) = false := by rw [beq_eq_false_iff_ne]; omega
    have e : Hid (hasBr 5 i 4 = true) := by show _ = _; unfold hasBr; (repeat' split) <;> first | rfl | (exfalso; omega) | (simp; omega)
    go_enter Tryd.func100, Tryd.ntmps100
    go_wp2_with fail
    go_returns
    exact ⟨ret_bool e.out.symm, rfl⟩
  · subst a1
    have K1 : (k == 5) = false := by simpa using k2
    have K2 : (k == 4) = false := by simpa using k1
    subst i1
    have e : Hid (hasBr k 0 4 = true) := by show _ = _; unfold hasBr; (repeat' split) <;> first | rfl | (exfalso; omega) | (simp; omega)
    go_enter Tryd.func100, Tryd.ntmps100
    go_wp2_with fail
    go_returns
    exact ⟨ret_bool e.out.symm, rfl⟩
  · subst a1
    have K1 : (k == 5) = false := by simpa using k2
    have K2 : (k == 4) = false := by simpa using k1
    have I1 : ((i : Int) == 0) = false := by rw [beq_eq_false_iff_ne]; omega
    have e : Hid (hasBr k i 4 = true) := by show _ = _; unfold hasBr; (repeat' split) <;> first | rfl | (exfalso; omega) | (simp; omega)
    go_enter Tryd.func100, Tryd.ntmps100
    go_wp2_with fail
    go_returns
    exact ⟨ret_bool e.out.symm, rfl⟩
  · subst a2
    subst k1
    subst i1
    have e : Hid (hasBr 4 0 5 = false) := by show _ = _; unfold hasBr; (repeat' split) <;> first | rfl | (exfalso; omega) | (simp; omega)
    go_enter Tryd.func100, Tryd.ntmps100
    go_wp2_with fail
    go_returns
    exact ⟨ret_bool e.out.symm, rfl⟩
  · subst a2
    subst k1
    have I1 : ((i : Int) == 0) = false := by rw [beq_eq_false_iff_ne]; omega
    have e : Hid (hasBr 4 i 5 = true) := by show _ = _; unfold hasBr; (repeat' split) <;> first | rfl | (exfalso; omega) | (simp; omega)
    go_enter Tryd.func100, Tryd.ntmps100
    go_wp2_with fail
    go_returns
    exact ⟨ret_bool e.out.symm, rfl⟩
  · subst a2
    subst k2
    subst i1
    have e : Hid (hasBr 5 0 5 = false) := by show _ = _; unfold hasBr; (repeat' split) <;> first | rfl | (exfalso; omega) | (simp; omega)
    go_enter Tryd.func100, Tryd.ntmps100
    go_wp2_with fail
    go_returns
    exact ⟨ret_bool e.out.symm, rfl⟩
  · subst a2
    subst k2
    have I1 : ((i : Int) == 0) = false := by rw [beq_eq_false_iff_ne]; omega
    have e : Hid (hasBr 5 i 5 = true) := by show _ = _; unfold hasBr; (repeat' split) <;> first | rfl | (exfalso; omega) | (simp; omega)
    go_enter Tryd.func100, Tryd.ntmps100
    go_wp2_with fail
    go_returns
    exact ⟨ret_bool e.out.symm, rfl⟩
  · subst a2
    have K1 : (k == 5) = false := by simpa using k2
    have K2 : (k == 4) = false := by simpa using k1
    subst i1
    have e : Hid (hasBr k 0 5 = true) := by show _ = _; unfold hasBr; (repeat' split) <;> first | rfl | (exfalso; omega) | (simp; omega)
    go_enter Tryd.func100, Tryd.ntmps100
    go_wp2_with fail
    go_returns
    exact ⟨ret_bool e.out.symm, rfl⟩
  · subst a2
    have K1 : (k == 5) = false := by simpa using k2
    have K2 : (k == 4) = false := by simpa using k1
    have I1 : ((i : Int) == 0) = false := by rw [beq_eq_false_iff_ne]; omega
    have e : Hid (hasBr k i 5 = true) := by show _ = _; unfold hasBr; (repeat' split) <;> first | rfl | (exfalso; omega) | (simp; omega)
    go_enter Tryd.func100, Tryd.ntmps100
    go_wp2_with fail
    go_returns
    exact ⟨ret_bool e.out.symm, rfl⟩
  · have A1 : (a != 4) = true := by simpa using a1
    have A2 : (a != 5) = true := by simpa using a2
    subst k1
    subst i1
    have e : Hid (hasBr 4 0 a = false) := by show _ = _; unfold hasBr; (repeat' split) <;> first | rfl | (exfalso; omega) | (simp; omega)
    go_enter Tryd.func100, Tryd.ntmps100
    go_wp2_with fail
    go_returns
    exact ⟨ret_bool e.out.symm, rfl⟩
  · have A1 : (a != 4) = true := by simpa using a1
    have A2 : (a != 5) = true := by simpa using a2
    subst k1
    have I1 : ((i : Int) == 0) = false := by rw [beq_eq_false_iff_ne]; omega
    have e : Hid (hasBr 4 i a = false) := by show _ = _; unfold hasBr; (repeat' split) <;> first | rfl | (exfalso; omega) | (simp; omega)
    go_enter Tryd.func100, Tryd.ntmps100
    go_wp2_with fail
    go_returns
    exact ⟨ret_bool e.out.symm, rfl⟩
  · have A1 : (a != 4) = true := by simpa using a1
    have A2 : (a != 5) = true := by simpa using a2
    subst k2
    subst i1
    have e : Hid (hasBr 5 0 a = false) := by show _ = _; unfold hasBr; (repeat' split) <;> first | rfl | (exfalso; omega) | (simp; omega)
    go_enter Tryd.func100, Tryd.ntmps100
    go_wp2_with fail
    go_returns
    exact ⟨ret_bool e.out.symm, rfl⟩
  · have A1 : (a != 4) = true := by simpa using a1
    have A2 : (a != 5) = true := by simpa using a2
    subst k2
    have I1 : ((i : Int) == 0) = false := by rw [beq_eq_false_iff_ne]; omega
    have e : Hid (hasBr 5 i a = false) := by show _ = _; unfold hasBr; (repeat' split) <;> first | rfl | (exfalso; omega) | (simp; omega)
    go_enter Tryd.func100, Tryd.ntmps100
    go_wp2_with fail
    go_returns
    exact ⟨ret_bool e.out.symm, rfl⟩
  · have A1 : (a != 4) = true := by simpa using a1
    have A2 : (a != 5) = true := by simpa using a2
    have K1 : (k == 5) = false := by simpa using k2
    have K2 : (k == 4) = false := by simpa using k1
    subst i1
    have e : Hid (hasBr k 0 a = false) := by show _ = _; unfold hasBr; (repeat' split) <;> first | rfl | (exfalso; omega) | (simp; omega)
    go_enter Tryd.func100, Tryd.ntmps100
    go_wp2_with fail
    go_returns
    exact ⟨ret_bool e.out.symm, rfl⟩
  · have A1 : (a != 4) = true := by simpa using a1
    have A2 : (a != 5) = true := by simpa using a2
    have K1 : (k == 5) = false := by simpa using k2
    have K2 : (k == 4) = false := by simpa using k1
    have I1 : ((i : Int) == 0) = false := by rw [beq_eq_false_iff_ne]; omega
    have e : Hid (hasBr k i a = false) := by show _ = _; unfold hasBr; (repeat' split) <;> first | rfl | (exfalso; omega) | (simp; omega)
    go_enter Tryd.func100, Tryd.ntmps100
    go_wp2_with fail
    go_returns
    exact ⟨ret_bool e.out.symm, rfl⟩

theorem paren_bs (l : List UInt8) : (⟨#[40]⟩ : ByteArray) ++ bs l ++ ⟨#[41]⟩ = bs (paren l) := by
  rw [show (⟨#[40]⟩ : ByteArray) = bs [40] from rfl, show (⟨#[41]⟩ : ByteArray) = bs [41] from rfl, bs_app, bs_app]; rfl
end Go.Proofs.YtgpblgalklegkaaDoor
