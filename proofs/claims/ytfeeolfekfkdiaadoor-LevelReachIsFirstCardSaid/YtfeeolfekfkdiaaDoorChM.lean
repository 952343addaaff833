/- The changes of a fade, in plain numbers. -/
import Derived.Test.YtfeeolfekfkdiaaDoorFadeM
namespace Go.Proofs.YtfeeolfekfkdiaaDoor
open Go.RowKit

/-- The next time at which the level is another one. -/
def nxt (lev : Int → Int) (e t : Int) : Int := fstP (fun u => !(lev u == lev t)) (t + 1) e
/-- The changes from t on, if they are at most n. -/
def chL (lev : Int → Int) (T e : Int) : Nat → Int → Option (List (Int × Int))
  | 0, _ => none
  | n + 1, t => if lev t = T then some [(t, lev t)] else (chL lev T e n (nxt lev e t)).map ((t, lev t) :: ·)
theorem chL_end {lev : Int → Int} {T e t : Int} {n : Nat} (h : lev t = T) : chL lev T e (n + 1) t = some [(t, lev t)] := if_pos h
theorem chL_step {lev : Int → Int} {T e t : Int} {n : Nat} (h : lev t ≠ T) : chL lev T e (n + 1) t = (chL lev T e n (nxt lev e t)).map ((t, lev t) :: ·) := if_neg h
theorem chL_step0 {lev : Int → Int} {T e t : Int} (h : lev t ≠ T) : chL lev T e 1 t = none := by rw [chL_step h]; rfl

/-- What holds in the list's making: these are there, and t is the last one's time. -/
structure ChRel (lev : Int → Int) (T S e : Int) (l : List (Int × Int)) (t : Int) : Prop where
  lo : S ≤ t
  hi : t ≤ e
  len : 1 ≤ l.length
  most : l.length ≤ 5000
  last : l[l.length - 1]?.getD (0, 0) = (t, lev t)
  rest : chL lev T e 5000 S = (chL lev T e (5001 - l.length) t).map (l.dropLast ++ ·)
theorem ch_start {lev : Int → Int} {T S e : Int} (h : S ≤ e) : ChRel lev T S e [(S, lev S)] S :=
  ⟨Int.le_refl _, h, by simp, by simp, rfl, by
    show chL lev T e 5000 S = (chL lev T e 5000 S).map _
    cases chL lev T e 5000 S <;> simp⟩
theorem dropLast_app {l : List (Int × Int)} {x : Int × Int} (h1 : 1 ≤ l.length) (h2 : l[l.length - 1]?.getD (0, 0) = x) : l.dropLast ++ [x] = l := by
  have hne : l ≠ [] := by intro h; subst h; simp at h1
  have e : l.getLast hne = x := by rw [List.getLast_eq_getElem, ← h2, List.getElem?_eq_getElem (by omega), Option.getD_some]
  rw [← e]; exact List.dropLast_concat_getLast hne
theorem ch_end {lev : Int → Int} {T S e t : Int} {l : List (Int × Int)} (h : ChRel lev T S e l t) (ht : lev t = T) : chL lev T e 5000 S = some l := by
  have := h.most
  rw [h.rest, show 5001 - l.length = (5000 - l.length) + 1 by omega, chL_end ht]
  show some (l.dropLast ++ [(t, lev t)]) = some l
  rw [dropLast_app h.len h.last]
theorem ch_full {lev : Int → Int} {T S e t : Int} {l : List (Int × Int)} (h : ChRel lev T S e l t) (ht : lev t ≠ T) (hl : l.length = 5000) : chL lev T e 5000 S = none := by
  rw [h.rest, show 5001 - l.length = 1 by omega, chL_step0 ht]; rfl
theorem ch_next {lev : Int → Int} {T S e t : Int} {l : List (Int × Int)} (h : ChRel lev T S e l t) (ht : lev t ≠ T) (hte : t < e) (hl : l.length < 5000) : ChRel lev T S e (l ++ [(nxt lev e t, lev (nxt lev e t))]) (nxt lev e t) := by
  obtain ⟨b1, b2⟩ := fst_bd (p := fun u => !(lev u == lev t)) (lo := t + 1) (hi := e) (by omega)
  have hlo := h.lo
  refine ⟨by unfold nxt; omega, b2, by simp, by simp only [List.length_append, List.length_cons, List.length_nil]; omega, ?_, ?_⟩
  · simp
  · rw [h.rest, show 5001 - l.length = (5000 - l.length) + 1 by omega, chL_step ht]
    rw [show 5001 - (l ++ [(nxt lev e t, lev (nxt lev e t))]).length = 5000 - l.length by simp only [List.length_append, List.length_cons, List.length_nil]; omega]
    rw [Option.map_map]
    congr 1
    funext z
    show l.dropLast ++ ((t, lev t) :: z) = _
    rw [List.dropLast_concat, List.append_cons, dropLast_app h.len h.last]

/-- The other search finds the same. -/
theorem nxt_eq {F T S Dl Tm k t : Int} {l : List (Int × Int)} (h : OkFade F T S Dl Tm k l) (ht : fadeAt F T S Dl Tm k l t ≠ T) :
    nxt (fadeAt F T S Dl Tm k l) (S + Dl + Tm) t = fstP (fun u => rchB F T (if T < F then fadeAt F T S Dl Tm k l t - 1 else fadeAt F T S Dl Tm k l t + 1) (fadeAt F T S Dl Tm k l u)) (t + 1) (S + Dl + Tm) := by
  refine fst_congr fun u h1 h2 => ?_
  obtain ⟨m1, m2⟩ := fade_way h (show t ≤ u by omega)
  unfold rchB
  by_cases c1 : F < T
  · rw [if_neg (show ¬ T < F by omega), if_pos c1]
    have := m1 (by omega)
    rw [Bool.eq_iff_iff]; simp; omega
  by_cases c2 : T < F
  · rw [if_neg c1, if_pos c2, if_pos c2]
    have := m2 (by omega)
    rw [Bool.eq_iff_iff]; simp; omega
  · have := m1 (by omega)
    have := m2 (by omega)
    omega
theorem lt_end {F T S Dl Tm k t : Int} {l : List (Int × Int)} (ht : fadeAt F T S Dl Tm k l t ≠ T) : t < S + Dl + Tm := by
  by_cases h : S + Dl + Tm ≤ t
  · exact absurd (if_pos h) ht
  · omega
/-- A level that has been left does not come again. -/
theorem ne_mono {F T S Dl Tm k t u v : Int} {l : List (Int × Int)} (h : OkFade F T S Dl Tm k l) (h1 : t ≤ u) (h2 : u ≤ v) (hu : fadeAt F T S Dl Tm k l u ≠ fadeAt F T S Dl Tm k l t) : fadeAt F T S Dl Tm k l v ≠ fadeAt F T S Dl Tm k l t := by
  obtain ⟨m1, m2⟩ := fade_way h h1
  obtain ⟨n1, n2⟩ := fade_way h h2
  rcases Int.le_total F T with hFT | hFT
  · have := m1 hFT; have := n1 hFT; omega
  · have := m2 hFT; have := n2 hFT; omega

/-- What Changes gives. -/
def csL (F T S Dl Tm k : Int) (l : List (Int × Int)) : List (Int × Int) := if ckFade F T S Dl Tm k l ≠ 0 then [] else (chL (fadeAt F T S Dl Tm k l) T (S + Dl + Tm) 5000 S).getD []
def csX (F T S Dl Tm k : Int) (l : List (Int × Int)) : Int := if ckFade F T S Dl Tm k l ≠ 0 then ckFade F T S Dl Tm k l else if (chL (fadeAt F T S Dl Tm k l) T (S + Dl + Tm) 5000 S).isSome then 0 else 2
theorem cs_ck {F T S Dl Tm k : Int} {l : List (Int × Int)} (h : ckFade F T S Dl Tm k l ≠ 0) : csL F T S Dl Tm k l = [] ∧ csX F T S Dl Tm k l = ckFade F T S Dl Tm k l := by
  unfold csL csX; rw [if_pos h, if_pos h]; exact ⟨rfl, rfl⟩
theorem cs_some {F T S Dl Tm k : Int} {l r : List (Int × Int)} (h : ckFade F T S Dl Tm k l = 0) (h2 : chL (fadeAt F T S Dl Tm k l) T (S + Dl + Tm) 5000 S = some r) : csL F T S Dl Tm k l = r ∧ csX F T S Dl Tm k l = 0 := by
  have h' : ¬ ckFade F T S Dl Tm k l ≠ 0 := fun hh => hh h
  unfold csL csX; rw [if_neg h', if_neg h', h2]; exact ⟨rfl, rfl⟩
theorem cs_none {F T S Dl Tm k : Int} {l : List (Int × Int)} (h : ckFade F T S Dl Tm k l = 0) (h2 : chL (fadeAt F T S Dl Tm k l) T (S + Dl + Tm) 5000 S = none) : csL F T S Dl Tm k l = [] ∧ csX F T S Dl Tm k l = 2 := by
  have h' : ¬ ckFade F T S Dl Tm k l ≠ 0 := fun hh => hh h
  unfold csL csX; rw [if_neg h', if_neg h', h2]; exact ⟨rfl, rfl⟩
end Go.Proofs.YtfeeolfekfkdiaaDoor
