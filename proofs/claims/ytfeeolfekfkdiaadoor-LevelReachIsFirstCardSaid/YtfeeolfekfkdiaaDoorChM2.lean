/- The last change up to a time has the level at this time, in plain numbers. -/
import Derived.Test.YtfeeolfekfkdiaaDoorChM
import Derived.Test.YtfeeolfekfkdiaaDoorAt
namespace Go.Proofs.YtfeeolfekfkdiaaDoor
open Go.RowKit

theorem fst_ex (p : Int → Bool) (lo : Int) : ∀ (n : Nat) (y : Int), y - lo = n → p y = true → ∃ x, lo ≤ x ∧ x ≤ y ∧ p x = true ∧ ∀ z, lo ≤ z → z < x → p z = false := by
  intro n
  induction n using Nat.strongRecOn with
  | _ n ih =>
    intro y hy hp
    by_cases h : ∃ z, lo ≤ z ∧ z < y ∧ p z = true
    · obtain ⟨z, h1, h2, h3⟩ := h
      obtain ⟨x, h4, h5, h6⟩ := ih (z - lo).toNat (by omega) z (by omega) h3
      exact ⟨x, h4, by omega, h6⟩
    · refine ⟨y, by omega, Int.le_refl _, hp, fun z h1 h2 => ?_⟩
      cases hz : p z with
      | false => rfl
      | true => exact absurd ⟨z, h1, h2, hz⟩ h
/-- Ahead of the place that is found it is false. -/
theorem fst_before {p : Int → Bool} {lo hi y : Int} (hm : ∀ s t, lo ≤ s → s ≤ t → p s = true → p t = true) (h1 : lo ≤ y) (h2 : y < fstP p lo hi) (h3 : y < hi) : p y = false := by
  cases hp : p y with
  | false => rfl
  | true =>
    obtain ⟨x, a, b, c, d⟩ := fst_ex p lo (y - lo).toNat y (by omega) hp
    have := fst_eq (p := p) (lo := lo) (hi := hi) (x := x) a (by omega) d (fun z h4 _ => hm x z a h4 c)
    omega

/-- The level of the last one up to t. -/
def lastL (t : Int) : Int → List (Int × Int) → Int
  | a, [] => a
  | a, c :: r => lastL t (if c.1 ≤ t then c.2 else a) r
theorem lastL_snoc (t : Int) : ∀ (r : List (Int × Int)) (a : Int) (c : Int × Int), lastL t a (r ++ [c]) = if c.1 ≤ t then c.2 else lastL t a r
  | [], _, _ => rfl
  | _ :: r, _, c => lastL_snoc t r _ c
theorem last_take (t : Int) (r : List (Int × Int)) (a : Int) (k : Nat) (h : k < r.length) : lastL t a (r.take (k + 1)) = if (r[k]?.getD (0, 0)).1 ≤ t then (r[k]?.getD (0, 0)).2 else lastL t a (r.take k) := by
  rw [← List.take_append_getElem h, lastL_snoc, List.getElem?_eq_getElem h, Option.getD_some]
theorem lastL_late (t : Int) : ∀ (r : List (Int × Int)) (a : Int), (∀ c ∈ r, t < c.1) → lastL t a r = a
  | [], _, _ => rfl
  | c :: r, a, h => by
    have := h c (by simp)
    show lastL t (if c.1 ≤ t then c.2 else a) r = a
    rw [if_neg (by omega)]
    exact lastL_late t r a fun d hd => h d (by simp [hd])

theorem chL_times {lev : Int → Int} {T e : Int} : ∀ (n : Nat) (s : Int) (r : List (Int × Int)), chL lev T e n s = some r → (∀ t, lev t ≠ T → t < e) → ∀ c ∈ r, s ≤ c.1
  | 0, _, _, h, _ => by cases h
  | n + 1, s, r, h, he => by
    by_cases hs : lev s = T
    · rw [chL_end hs] at h
      cases h
      simp
    · rw [chL_step hs] at h
      cases hr : chL lev T e n (nxt lev e s) with
      | none => rw [hr] at h; cases h
      | some q =>
        rw [hr] at h
        cases h
        have hb := fst_bd (p := fun u => !(lev u == lev s)) (lo := s + 1) (hi := e) (by have := he s hs; omega)
        intro c hc
        rcases List.mem_cons.1 hc with rfl | hc
        · exact Int.le_refl _
        · have := chL_times n _ q hr he c hc
          unfold nxt at this
          omega

theorem last_lev {F T S Dl Tm k : Int} {l : List (Int × Int)} (h : OkFade F T S Dl Tm k l) (t : Int) : ∀ (n : Nat) (s : Int) (r : List (Int × Int)) (a : Int), chL (fadeAt F T S Dl Tm k l) T (S + Dl + Tm) n s = some r → s ≤ t → lastL t a r = fadeAt F T S Dl Tm k l t
  | 0, _, _, _, hr, _ => by cases hr
  | n + 1, s, r, a, hr, hst => by
    by_cases hs : fadeAt F T S Dl Tm k l s = T
    · rw [chL_end hs] at hr
      cases hr
      show (if s ≤ t then fadeAt F T S Dl Tm k l s else a) = _
      rw [if_pos hst, hs]
      obtain ⟨m1, m2⟩ := fade_way h hst
      rcases Int.le_total F T with hFT | hFT
      · have := m1 hFT; omega
      · have := m2 hFT; omega
    · rw [chL_step hs] at hr
      cases hq : chL (fadeAt F T S Dl Tm k l) T (S + Dl + Tm) n (nxt (fadeAt F T S Dl Tm k l) (S + Dl + Tm) s) with
      | none => rw [hq] at hr; cases hr
      | some q =>
        rw [hq] at hr
        cases hr
        show lastL t (if s ≤ t then fadeAt F T S Dl Tm k l s else a) q = _
        rw [if_pos hst]
        by_cases ht : nxt (fadeAt F T S Dl Tm k l) (S + Dl + Tm) s ≤ t
        · exact last_lev h t n _ q _ hq ht
        · have hse := lt_end hs
          rw [lastL_late t q _ (fun c hc => by have := chL_times n _ q hq (fun u hu => lt_end hu) c hc; omega)]
          by_cases hts : t = s
          · rw [hts]
          · have hb := fst_bd (p := fun u => !(fadeAt F T S Dl Tm k l u == fadeAt F T S Dl Tm k l s)) (lo := s + 1) (hi := S + Dl + Tm) (by omega)
            have := fst_before (p := fun u => !(fadeAt F T S Dl Tm k l u == fadeAt F T S Dl Tm k l s)) (lo := s + 1) (hi := S + Dl + Tm) (y := t)
              (fun u v h1 h2 h3 => by
                have h3 : fadeAt F T S Dl Tm k l u ≠ fadeAt F T S Dl Tm k l s := by simpa using h3
                have := ne_mono h (show s ≤ u by omega) h2 h3
                simpa using this) (by omega) (by unfold nxt at ht; omega) (by unfold nxt at ht; omega)
            have : fadeAt F T S Dl Tm k l t = fadeAt F T S Dl Tm k l s := by simpa using this
            omega

/-- Of a fade's changes: at each time from its beginning on. -/
theorem cs_last {F T S Dl Tm k t : Int} {l : List (Int × Int)} (hc : ckFade F T S Dl Tm k l = 0) (hx : csX F T S Dl Tm k l = 0) (ht : S ≤ t) (a : Int) : lastL t a (csL F T S Dl Tm k l) = fadeAt F T S Dl Tm k l t := by
  obtain ⟨hok, _⟩ := okFade_of hc
  cases hr : chL (fadeAt F T S Dl Tm k l) T (S + Dl + Tm) 5000 S with
  | none => rw [(cs_none hc hr).2] at hx; cases hx
  | some r => rw [(cs_some hc hr).1]; exact last_lev hok t 5000 S r a hr ht
theorem cs_pos {F T S Dl Tm k : Int} {l : List (Int × Int)} (hc : ckFade F T S Dl Tm k l = 0) (hx : csX F T S Dl Tm k l = 0) : 0 < (csL F T S Dl Tm k l).length := by
  cases hr : chL (fadeAt F T S Dl Tm k l) T (S + Dl + Tm) 5000 S with
  | none => rw [(cs_none hc hr).2] at hx; cases hx
  | some r =>
    rw [(cs_some hc hr).1]
    by_cases hs : fadeAt F T S Dl Tm k l S = T
    · rw [chL_end hs] at hr; cases hr; simp
    · rw [chL_step hs] at hr
      cases hq : chL (fadeAt F T S Dl Tm k l) T (S + Dl + Tm) 4999 (nxt (fadeAt F T S Dl Tm k l) (S + Dl + Tm) S) with
      | none => rw [hq] at hr; cases hr
      | some q => rw [hq] at hr; cases hr; simp
theorem cs_bad {F T S Dl Tm k : Int} {l : List (Int × Int)} (hx : csX F T S Dl Tm k l ≠ 0) : csL F T S Dl Tm k l = [] := by
  by_cases hc : ckFade F T S Dl Tm k l = 0
  · cases hr : chL (fadeAt F T S Dl Tm k l) T (S + Dl + Tm) 5000 S with
    | none => exact (cs_none hc hr).1
    | some r => exact absurd (cs_some hc hr).2 hx
  · exact (cs_ck hc).1
theorem cs_good {F T S Dl Tm k : Int} {l : List (Int × Int)} (hx : csX F T S Dl Tm k l = 0) : ckFade F T S Dl Tm k l = 0 := by
  by_cases hc : ckFade F T S Dl Tm k l = 0
  · exact hc
  · rw [(cs_ck hc).2] at hx; exact hx
theorem at_right {F T S Dl Tm k t : Int} {l : List (Int × Int)} (h : atX F T S Dl Tm k l t = 0) : atA F T S Dl Tm k l t = fadeAt F T S Dl Tm k l t := by
  unfold atX at h
  unfold atA
  by_cases hc : ckFade F T S Dl Tm k l = 0
  · rw [if_neg (by simpa using hc)] at h ⊢
    cases ht : isTm t with
    | true => rw [if_pos rfl]
    | false => rw [ht] at h; simp at h
  · rw [if_pos hc] at h
    exact absurd h hc
end Go.Proofs.YtfeeolfekfkdiaaDoor
