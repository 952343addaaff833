/- The text of a library: plain mathematics, no program in it. -/
import Derived.Test.YtcidldomnifdeaaDoorFxM
import Derived.Test.YtcidldomnifdeaaDoorTxT
namespace Go.Proofs.YtcidldomnifdeaaDoor
open Go.RowKit Go.Lib

/-- The word of a group. -/
def gW (g : Nat) : List UInt8 := if g = 1 then [105, 110, 116, 101, 110, 115, 105, 116, 121] else if g = 2 then [112, 111, 115, 105, 116, 105, 111, 110] else if g = 3 then [99, 111, 108, 111, 117, 114] else if g = 4 then [98, 101, 97, 109] else []
theorem gW_len (g : Nat) : (gW g).length ≤ 9 := by
  unfold gW; (repeat' split) <;> decide
def fxAt : List UInt8 := [32, 97, 116, 32]
def fxFine (n : Int) : List UInt8 := if n = 0 then [] else [32, 102, 105, 110, 101, 32] ++ decDigits n.toNat
def fxDflt (n : Int) : List UInt8 := if n = 0 then [] else [32, 100, 101, 102, 97, 117, 108, 116, 32] ++ lvShow n
def fxSnap (b : Bool) : List UInt8 := if b = true then [32, 115, 110, 97, 112] else []
/-- The words of a parameter. -/
def fxWords (p : Par) : List UInt8 := gW p.grp.toNat ++ [32] ++ nmP p ++ fxAt ++ decDigits p.slot.toNat ++ fxFine p.fine ++ fxDflt p.dflt ++ fxSnap p.snap
def fxRng (r : Rng) : List UInt8 := [32, 32, 32, 32] ++ lvShow r.lo ++ [32] ++ lvShow r.hi ++ [32] ++ nmR r ++ [10]
def fxPar (p : Par) : List UInt8 := [32, 32] ++ fxWords p ++ [10] ++ p.rs.flatMap fxRng
def fxHead (f : Prof) : List UInt8 := [112, 114, 111, 102, 105, 108, 101, 32] ++ nmF f ++ [32] ++ decDigits f.size.toNat ++ [10]
def fxProf (f : Prof) : List UInt8 := fxHead f ++ f.ps.flatMap fxPar
def fxTxt (L : List Prof) : List UInt8 := L.flatMap fxProf
theorem flat_take {α : Type} (g : α → List UInt8) (L : List α) (k : Nat) (h : k < L.length) : (L.take (k + 1)).flatMap g = (L.take k).flatMap g ++ g L[k] := by
  rw [List.take_succ_eq_append_getElem h, List.flatMap_append]; simp
theorem flat_len {α : Type} (g : α → List UInt8) (c : Nat) : ∀ (L : List α), (∀ x ∈ L, (g x).length ≤ c) → (L.flatMap g).length ≤ c * L.length
  | [], _ => by simp
  | x :: t, h => by
    have h1 := h x List.mem_cons_self
    have h2 := flat_len g c t (fun y hy => h y (List.mem_cons_of_mem _ hy))
    rw [List.flatMap_cons, List.length_append, List.length_cons, Nat.mul_succ]
    omega
theorem isNm_len {l : List UInt8} (h : isNm l = true) : l.length ≤ 20 := by
  unfold isNm at h
  simp only [Bool.and_eq_true, decide_eq_true_eq] at h
  exact h.1.1.1
theorem dd5 {n : Int} (h0 : 0 ≤ n) (h1 : n ≤ 65535) : (decDigits n.toNat).length ≤ 5 := by rw [decDigits_length]; exact nDigits_lt (by decide) (show n.toNat < 10 ^ 5 by omega)
theorem lvShow_l10 {n : Int} (h0 : 0 ≤ n) (h1 : n ≤ 65535) : (lvShow n).length ≤ 10 := by
  unfold lvShow
  by_cases a : n = 0
  · rw [if_pos a]; decide
  rw [if_neg a]
  by_cases b : n = 65535
  · rw [if_pos b]; decide
  rw [if_neg b]
  by_cases c : rnd (rnd n 65535 100 * 100) 10000 65535 = n
  · rw [if_pos c]
    have p0 : 0 ≤ rnd n 65535 100 := rnd_nonneg (by decide) h0 (by decide)
    have p1 : rnd n 65535 100 ≤ 100 := rnd_le (by decide) h1 (by decide)
    have := dd5 p0 (by omega)
    simp; omega
  · rw [if_neg c]
    have := dd5 h0 h1
    simp; omega
theorem fxRng_len {r : Rng} (h : RngGood r) : (fxRng r).length ≤ 60 := by
  obtain ⟨⟨h1, h2, h3⟩, h4⟩ := h
  have := isNm_len h4
  have := lvShow_l10 h1 (by omega)
  have := lvShow_l10 (show 0 ≤ r.hi by omega) h3
  unfold fxRng
  simp only [List.length_append, List.length_cons, List.length_nil]
  omega
theorem fxWords_len {p : Par} {size : Int} (h : ParGood size p) (hs : size ≤ 512) : (fxWords p).length ≤ 90 := by
  obtain ⟨h1, h2, h3, h4, h5, _⟩ := h
  have e1 := isNm_len h1
  have e2 := gW_len p.grp.toNat
  have e3 := dd5 (show 0 ≤ p.slot by omega) (by omega)
  have e4 : (fxFine p.fine).length ≤ 11 := by
    have := dd5 (show 0 ≤ p.fine by omega) (by omega)
    unfold fxFine; split
    · simp
    · simp only [List.length_append, List.length_cons, List.length_nil]; omega
  have e5 : (fxDflt p.dflt).length ≤ 19 := by
    have := lvShow_l10 h5.1 h5.2
    unfold fxDflt; split
    · simp
    · simp only [List.length_append, List.length_cons, List.length_nil]; omega
  have e6 : (fxSnap p.snap).length ≤ 5 := by unfold fxSnap; split <;> simp
  unfold fxWords fxAt
  simp only [List.length_append, List.length_cons, List.length_nil]
  omega
theorem fxPar_len {p : Par} {size : Int} (h : ParGood size p) (hs : size ≤ 512) : (fxPar p).length ≤ 2000 := by
  have e1 := fxWords_len h hs
  have e2 := flat_len fxRng 60 p.rs (fun r hr => fxRng_len (h.2.2.2.2.2.2 r hr))
  have e3 := h.2.2.2.2.2.1
  unfold fxPar
  simp only [List.length_append, List.length_cons, List.length_nil]
  omega
theorem fxHead_len {f : Prof} (h : ProfGood f) : (fxHead f).length ≤ 40 := by
  have e1 := isNm_len h.1
  have e2 := dd5 (show 0 ≤ f.size by have := h.2.1.1; omega) (by have := h.2.1.2; omega)
  unfold fxHead
  simp only [List.length_append, List.length_cons, List.length_nil]
  omega
theorem fxProf_len {f : Prof} (h : ProfGood f) : (fxProf f).length ≤ 90000 := by
  have e1 := fxHead_len h
  have e2 := flat_len fxPar 2000 f.ps (fun p hp => fxPar_len (h.2.2.2 p hp) h.2.1.2)
  have e3 := h.2.2.1.2
  unfold fxProf
  simp only [List.length_append]
  omega
theorem fxTxt_len {L : List Prof} (h : L.length ≤ 60) (hg : ∀ f ∈ L, ProfGood f) : (fxTxt L).length ≤ 5400000 := by
  have e2 := flat_len fxProf 90000 L (fun f hf => fxProf_len (hg f hf))
  unfold fxTxt
  omega
end Go.Proofs.YtcidldomnifdeaaDoor
