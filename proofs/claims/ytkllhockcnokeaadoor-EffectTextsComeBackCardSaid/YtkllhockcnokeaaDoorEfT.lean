/- The text of an effect: plain mathematics, no program in it. -/
import Derived.Test.YtkllhockcnokeaaDoorEfM
import Derived.Test.YtkllhockcnokeaaDoorTxF
import Derived.Lib.ItoaLen
namespace Go.Proofs.YtkllhockcnokeaaDoor
open Go.RowKit Go.Lib

/-- The word of a form. -/
def fW (k : Nat) : List UInt8 :=
  if k = 1 then [116, 114, 105, 97, 110, 103, 108, 101] else if k = 2 then [117, 112] else if k = 3 then [100, 111, 119, 110] else if k = 4 then [115, 113, 117, 97, 114, 101]
  else if k = 5 then [115, 111, 102, 116] else if k = 6 then [99, 104, 97, 110, 99, 101] else if k = 7 then [115, 116, 101, 112, 115] else []
theorem fW_len (k : Nat) : (fW k).length ≤ 8 := by
  unfold fW; (repeat' split) <;> decide
def efFrom : List UInt8 := [32, 102, 114, 111, 109, 32]
def efTo : List UInt8 := [32, 116, 111, 32]
def efCyc (e : Eff) : List UInt8 := if e.frm = 7 then [] else [32, 99, 121, 99, 108, 101, 32] ++ Lib.itoa e.cyc
def efWid (e : Eff) : List UInt8 := if e.frm = 4 then [32, 119, 105, 100, 116, 104, 32] ++ Lib.itoa e.wid else []
def efSpr (e : Eff) : List UInt8 := if e.spr = 0 then [] else [32, 115, 112, 114, 101, 97, 100, 32] ++ Lib.itoa e.spr
def efBk (e : Eff) : List UInt8 := if e.bk = true then [32, 98, 97, 99, 107] else []
def efRl (e : Eff) : List UInt8 := if e.rl = true then [32, 114, 101, 108, 97, 116, 105, 118, 101] else []
def efStp (x : Stp) : List UInt8 := [32] ++ lvShow x.lv ++ [58] ++ Lib.itoa x.ho ++ [58] ++ Lib.itoa x.fa
def efT0 (e : Eff) : List UInt8 := fW e.frm.toNat ++ efFrom ++ lvShow e.lo ++ efTo ++ lvShow e.hi
def efT1 (e : Eff) : List UInt8 := efT0 e ++ efCyc e
def efT2 (e : Eff) : List UInt8 := efT1 e ++ efWid e
def efT3 (e : Eff) : List UInt8 := efT2 e ++ efSpr e
def efT4 (e : Eff) : List UInt8 := efT3 e ++ efBk e
def efT5 (e : Eff) : List UInt8 := efT4 e ++ efRl e
/-- The text of an effect. -/
def efTxt (e : Eff) : List UInt8 := efT5 e ++ e.st.flatMap efStp

theorem itoa_l8 {n : Int} (h0 : -9999999 ≤ n) (h1 : n ≤ 9999999) : (Lib.itoa n).length ≤ 8 := by
  unfold Lib.itoa
  split
  · rw [List.length_cons, decDigits_length]
    have := nDigits_lt (k := 7) (by decide) (show n.natAbs < 10 ^ 7 by omega)
    omega
  · rw [decDigits_length]
    have := nDigits_lt (k := 7) (by decide) (show n.toNat < 10 ^ 7 by omega)
    omega
theorem efStp_len {x : Stp} (h : stpOk x = true) : (efStp x).length ≤ 30 := by
  obtain ⟨⟨h1, h2⟩, h3, h4, h5, h6⟩ := stpOk_iff.1 h
  have := lvShow_l10 h1 h2
  have := itoa_l8 (n := x.ho) (by omega) (by omega)
  have := itoa_l8 (n := x.fa) (by omega) (by omega)
  unfold efStp
  simp only [List.length_append, List.length_cons, List.length_nil]
  omega
theorem efT_len {e : Eff} (h : ckE e = 0) : (efT0 e).length ≤ 40 ∧ (efT1 e).length ≤ 60 ∧ (efT2 e).length ≤ 80 ∧ (efT3 e).length ≤ 100 ∧ (efT4 e).length ≤ 110 ∧ (efT5 e).length ≤ 120 := by
  obtain ⟨_, ⟨l1, l2, l3⟩, w1, s1, c1, _⟩ := ckE_ok h
  have a0 : (efT0 e).length ≤ 40 := by
    have := fW_len e.frm.toNat
    have := lvShow_l10 l1 (by omega)
    have := lvShow_l10 (show 0 ≤ e.hi by omega) l3
    unfold efT0 efFrom efTo
    simp only [List.length_append, List.length_cons, List.length_nil]
    omega
  have a1 : (efCyc e).length ≤ 15 := by
    unfold efCyc
    split
    · simp
    · rename_i h7
      unfold cycE at c1
      rw [if_neg h7] at c1
      have := itoa_l8 (n := e.cyc) (by omega) (by omega)
      simp only [List.length_append, List.length_cons, List.length_nil]
      omega
  have a2 : (efWid e).length ≤ 15 := by
    unfold efWid
    have := itoa_l8 (n := e.wid) (by omega) (by omega)
    split
    · simp only [List.length_append, List.length_cons, List.length_nil]; omega
    · simp
  have a3 : (efSpr e).length ≤ 16 := by
    unfold efSpr
    have := itoa_l8 (n := e.spr) (by omega) (by omega)
    split
    · simp
    · simp only [List.length_append, List.length_cons, List.length_nil]; omega
  have a4 : (efBk e).length ≤ 5 := by unfold efBk; split <;> simp
  have a5 : (efRl e).length ≤ 9 := by unfold efRl; split <;> simp
  unfold efT5 efT4 efT3 efT2 efT1
  simp only [List.length_append]
  omega
theorem efTxt_len {e : Eff} (h : ckE e = 0) : (efTxt e).length ≤ 1700 := by
  have h1 := (efT_len h).2.2.2.2.2
  obtain ⟨_, _, _, _, _, _, h7, hx⟩ := ckE_ok h
  unfold efTxt
  rw [List.length_append]
  by_cases h8 : e.frm = 7
  · obtain ⟨_, _, h50, hall⟩ := h7 h8
    have h2 := flat_len efStp 30 e.st (fun x hx => efStp_len (List.all_eq_true.1 hall x hx))
    have h3 : 30 * e.st.length ≤ 1500 := by omega
    omega
  · rw [hx h8]; simp; omega
/-- What Text answers. -/
def efS (e : Eff) : List UInt8 := if ckE e = 0 then efTxt e else []
end Go.Proofs.YtkllhockcnokeaaDoor
