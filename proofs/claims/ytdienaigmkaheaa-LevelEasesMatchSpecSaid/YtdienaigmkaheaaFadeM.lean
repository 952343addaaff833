/- A fade goes one way; what Reach and Changes look for, in plain numbers. -/
import Derived.Test.YtdienaigmkaheaaCourse
namespace Go.Proofs.Ytdienaigmkaheaa
open Go.RowKit

theorem fade_way {F T S Dl Tm k t u : Int} {l : List (Int × Int)} (h : OkFade F T S Dl Tm k l) (htu : t ≤ u) :
    (F ≤ T → F ≤ fadeAt F T S Dl Tm k l t ∧ fadeAt F T S Dl Tm k l t ≤ fadeAt F T S Dl Tm k l u ∧ fadeAt F T S Dl Tm k l u ≤ T) ∧ (T ≤ F → T ≤ fadeAt F T S Dl Tm k l u ∧ fadeAt F T S Dl Tm k l u ≤ fadeAt F T S Dl Tm k l t ∧ fadeAt F T S Dl Tm k l t ≤ F) := by
  obtain ⟨f0, f1, q0, q1, s0, s1, d0, d1, m0, m1, e1, hc⟩ := h
  unfold fadeAt
  by_cases h1 : S + Dl + Tm ≤ t
  · rw [if_pos h1, if_pos (by omega)]; omega
  rw [if_neg h1]
  by_cases h2 : t ≤ S + Dl
  · rw [if_pos h2]
    by_cases h3 : S + Dl + Tm ≤ u
    · rw [if_pos h3]; omega
    rw [if_neg h3]
    by_cases h4 : u ≤ S + Dl
    · rw [if_pos h4]; omega
    rw [if_neg h4]
    have hb := btw_bd (a := F) (b := T) (way_ok hc (p := u - (S + Dl)) (q := Tm) (by omega) (by omega) (by omega) (by omega))
    exact ⟨fun hft => ⟨by omega, (hb.1 hft).1, (hb.1 hft).2⟩, fun hft => ⟨(hb.2 hft).1, (hb.2 hft).2, by omega⟩⟩
  rw [if_neg h2]
  have ht := way_ok hc (p := t - (S + Dl)) (q := Tm) (by omega) (by omega) (by omega) (by omega)
  have hbt := btw_bd (a := F) (b := T) ht
  by_cases h3 : S + Dl + Tm ≤ u
  · rw [if_pos h3]
    exact ⟨fun hft => ⟨(hbt.1 hft).1, (hbt.1 hft).2, by omega⟩, fun hft => ⟨by omega, (hbt.2 hft).1, (hbt.2 hft).2⟩⟩
  rw [if_neg h3, if_neg (by omega)]
  have hu := way_ok hc (p := u - (S + Dl)) (q := Tm) (by omega) (by omega) (by omega) (by omega)
  have hbu := btw_bd (a := F) (b := T) hu
  have hm := btw_mono (a := F) (b := T) ht hu (way_mono hc (by omega) (by omega) (by omega) (by omega) (by omega))
  exact ⟨fun hft => ⟨(hbt.1 hft).1, hm.1 hft, (hbu.1 hft).2⟩, fun hft => ⟨(hbu.2 hft).1, hm.2 hft, (hbt.2 hft).2⟩⟩

theorem fade_end {F T S Dl Tm k : Int} {l : List (Int × Int)} : fadeAt F T S Dl Tm k l (S + Dl + Tm) = T := if_pos (Int.le_refl _)


theorem fade_bd {F T S Dl Tm k t : Int} {l : List (Int × Int)} (h : OkFade F T S Dl Tm k l) : 0 ≤ fadeAt F T S Dl Tm k l t ∧ fadeAt F T S Dl Tm k l t ≤ 65535 := by
  obtain ⟨h1, h2⟩ := fade_way h (Int.le_refl t)
  have := h.f0; have := h.f1; have := h.t0; have := h.t1
  rcases Int.le_total F T with h3 | h3
  · have := h1 h3; omega
  · have := h2 h3; omega

/-- Has a level come to n, or beyond it, seen from F? -/
def rchB (F T n a : Int) : Bool := if F < T then decide (n ≤ a) else if T < F then decide (a ≤ n) else decide (a = n)
theorem rchB_mono {F T S Dl Tm k n s t : Int} {l : List (Int × Int)} (h : OkFade F T S Dl Tm k l) (hst : s ≤ t) (hs : rchB F T n (fadeAt F T S Dl Tm k l s) = true) : rchB F T n (fadeAt F T S Dl Tm k l t) = true := by
  obtain ⟨h1, h2⟩ := fade_way h hst
  unfold rchB at hs ⊢
  by_cases c1 : F < T
  · rw [if_pos c1] at hs ⊢
    have := h1 (by omega)
    simp at hs ⊢; omega
  rw [if_neg c1] at hs ⊢
  by_cases c2 : T < F
  · rw [if_pos c2] at hs ⊢
    have := h2 (by omega)
    simp at hs ⊢; omega
  rw [if_neg c2] at hs ⊢
  have := h1 (by omega)
  have := h2 (by omega)
  simp at hs ⊢; omega

/-- The first place from lo on at which p is true, if it is so at hi at the latest. -/
def fstP (p : Int → Bool) (lo hi : Int) : Int := lo + (((List.range (hi - lo).toNat).countP (fun i : Nat => !p (lo + (i : Int))) : Nat) : Int)
theorem fst_eq {p : Int → Bool} {lo hi x : Int} (h1 : lo ≤ x) (h2 : x ≤ hi) (h3 : ∀ y, lo ≤ y → y < x → p y = false) (h4 : ∀ y, x ≤ y → y < hi → p y = true) : fstP p lo hi = x := by
  unfold fstP
  rw [count_to (fun i => p (lo + (i : Int))) _ (x - lo).toNat (by omega) (fun t ht => h3 _ (by omega) (by omega)) (fun t ht ht2 => h4 _ (by omega) (by omega))]
  omega
/-- Two searches that ask alike. -/
theorem fst_congr {p q : Int → Bool} {lo hi : Int} (h : ∀ y, lo ≤ y → y < hi → p y = q y) : fstP p lo hi = fstP q lo hi := by
  unfold fstP
  congr 2
  refine List.countP_congr fun i hi => ?_
  have hi := List.mem_range.1 hi
  rw [h _ (by omega) (by omega)]
theorem fst_bd {p : Int → Bool} {lo hi : Int} (h : lo ≤ hi) : lo ≤ fstP p lo hi ∧ fstP p lo hi ≤ hi := by
  unfold fstP
  have := List.countP_le_length (p := fun i : Nat => !p (lo + (i : Int))) (l := List.range (hi - lo).toNat)
  rw [List.length_range] at this
  omega

/-- What Reach says: the time, whether there is one, the fault. -/
def reV (F T S Dl Tm k : Int) (l : List (Int × Int)) (n : Int) : Int := if ckFade F T S Dl Tm k l ≠ 0 then 0 else if isLev n = true then (if rchB F T n T = true then fstP (fun t => rchB F T n (fadeAt F T S Dl Tm k l t)) S (S + Dl + Tm) else 0) else 0
def reB (F T S Dl Tm k : Int) (l : List (Int × Int)) (n : Int) : Bool := if ckFade F T S Dl Tm k l ≠ 0 then false else if isLev n = true then rchB F T n T else false
def reX (F T S Dl Tm k : Int) (l : List (Int × Int)) (n : Int) : Int := if ckFade F T S Dl Tm k l ≠ 0 then ckFade F T S Dl Tm k l else if isLev n = true then 0 else 1
theorem re_ck {F T S Dl Tm k n : Int} {l : List (Int × Int)} (h : ckFade F T S Dl Tm k l ≠ 0) : reV F T S Dl Tm k l n = 0 ∧ reB F T S Dl Tm k l n = false ∧ reX F T S Dl Tm k l n = ckFade F T S Dl Tm k l := by
  unfold reV reB reX; rw [if_pos h, if_pos h, if_pos h]; exact ⟨rfl, rfl, rfl⟩
theorem re_lv {F T S Dl Tm k n : Int} {l : List (Int × Int)} (h : ckFade F T S Dl Tm k l = 0) (h2 : isLev n = false) : reV F T S Dl Tm k l n = 0 ∧ reB F T S Dl Tm k l n = false ∧ reX F T S Dl Tm k l n = 1 := by
  unfold reV reB reX
  have h' : ¬ ckFade F T S Dl Tm k l ≠ 0 := fun hh => hh h
  rw [if_neg h', if_neg h', if_neg h', h2]; exact ⟨rfl, rfl, rfl⟩
theorem re_no {F T S Dl Tm k n : Int} {l : List (Int × Int)} (h : ckFade F T S Dl Tm k l = 0) (h2 : isLev n = true) (h3 : rchB F T n T = false) : reV F T S Dl Tm k l n = 0 ∧ reB F T S Dl Tm k l n = false ∧ reX F T S Dl Tm k l n = 0 := by
  unfold reV reB reX
  have h' : ¬ ckFade F T S Dl Tm k l ≠ 0 := fun hh => hh h
  rw [if_neg h', if_neg h', if_neg h', h2, h3]; exact ⟨rfl, rfl, rfl⟩
theorem re_yes {F T S Dl Tm k n : Int} {l : List (Int × Int)} (h : ckFade F T S Dl Tm k l = 0) (h2 : isLev n = true) (h3 : rchB F T n T = true) : reV F T S Dl Tm k l n = fstP (fun t => rchB F T n (fadeAt F T S Dl Tm k l t)) S (S + Dl + Tm) ∧ reB F T S Dl Tm k l n = true ∧ reX F T S Dl Tm k l n = 0 := by
  unfold reV reB reX
  have h' : ¬ ckFade F T S Dl Tm k l ≠ 0 := fun hh => hh h
  rw [if_neg h', if_neg h', if_neg h', h2, h3]; exact ⟨rfl, rfl, rfl⟩
end Go.Proofs.Ytdienaigmkaheaa
