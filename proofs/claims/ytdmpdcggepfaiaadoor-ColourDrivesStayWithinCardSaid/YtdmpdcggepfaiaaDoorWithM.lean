/- Emitters that are driven stay within: plain arithmetic. -/
import Derived.Test.YtdmpdcggepfaiaaDoorDrive
namespace Go.Proofs.YtdmpdcggepfaiaaDoor.within
open Go.ChangeShapes Go.WideShapes Go.ChangeAt Go.RowKit Go.Sort

theorem g1_next {x X : Int} (x0 : 0 ≤ x) (h : g1 x X < 65535) : X < x * (g1 x X + 1) := by
  unfold g1 at h ⊢
  split
  · rename_i e; rw [if_pos e] at h; omega
  · rename_i e
    rw [if_neg e] at h
    have e1 : min (X / x) 65535 = X / x := by omega
    rw [e1]
    have := Int.lt_mul_ediv_self_add (x := X) (k := x) (by omega)
    have e2 : x * (X / x + 1) = x * (X / x) + x := by grind
    omega
theorem left_mono {c : Int × Int × Int} {L : List Em} (hL : EmsLv L) (c0 : 0 ≤ c.1 ∧ 0 ≤ c.2.1 ∧ 0 ≤ c.2.2) (k : Nat) (hk : k < L.length) :
    (leftD c L (k + 1)).1 ≤ (leftD c L k).1 ∧ (leftD c L (k + 1)).2.1 ≤ (leftD c L k).2.1 ∧ (leftD c L (k + 1)).2.2 ≤ (leftD c L k).2.2 := by
  have he := hL L[k] (List.getElem_mem hk)
  have hd := dLev_ok hL c0 k
  rw [leftD_at c L k hk]
  have a := Int.mul_nonneg he.1.1 hd.1
  have b := Int.mul_nonneg he.2.1.1 hd.1
  have d := Int.mul_nonneg he.2.2.1 hd.1
  simp only
  omega
theorem left_monoN {c : Int × Int × Int} {L : List Em} (hL : EmsLv L) (c0 : 0 ≤ c.1 ∧ 0 ≤ c.2.1 ∧ 0 ≤ c.2.2) (k : Nat) : ∀ (j : Nat), k + j ≤ L.length →
    (leftD c L (k + j)).1 ≤ (leftD c L k).1 ∧ (leftD c L (k + j)).2.1 ≤ (leftD c L k).2.1 ∧ (leftD c L (k + j)).2.2 ≤ (leftD c L k).2.2
  | 0, _ => ⟨Int.le_refl _, Int.le_refl _, Int.le_refl _⟩
  | j + 1, h => by
    have h1 := left_monoN hL c0 k j (by omega)
    have h2 := left_mono hL c0 (k + j) (by omega)
    rw [← Nat.add_assoc]
    omega
/-- None could give more by itself. -/
theorem no_more {c : Int × Int × Int} {L : List Em} (hL : EmsLv L) (c0 : 0 ≤ c.1 ∧ 0 ≤ c.2.1 ∧ 0 ≤ c.2.2) (k : Nat) (hk : k < L.length) :
    dLev c L k = 65535 ∨ (dLev c L k < 65535 ∧ (c.1 * 65535 < sumN (fun i => emC Em.r L i * dLev c L i) L.length + L[k].r ∨ c.2.1 * 65535 < sumN (fun i => emC Em.g L i * dLev c L i) L.length + L[k].g ∨ c.2.2 * 65535 < sumN (fun i => emC Em.b L i * dLev c L i) L.length + L[k].b)) := by
  have he := hL L[k] (List.getElem_mem hk)
  have hd := dLev_ok hL c0 k
  by_cases h : dLev c L k = 65535
  · exact .inl h
  · refine .inr ⟨by omega, ?_⟩
    obtain ⟨s1, s2, s3⟩ := left_sum c L L.length (Nat.le_refl _)
    have hm := left_monoN hL c0 (k + 1) (L.length - (k + 1)) (by omega)
    rw [show k + 1 + (L.length - (k + 1)) = L.length by omega] at hm
    have hn := leftD_at c L k hk
    have hlt : dLev c L k < 65535 := by omega
    have hg := dLev_at c L k hk
    have key : dLev c L k = g1 L[k].r (leftD c L k).1 ∨ dLev c L k = g1 L[k].g (leftD c L k).2.1 ∨ dLev c L k = g1 L[k].b (leftD c L k).2.2 := by
      rw [hg]; unfold gLev mn3; omega
    rw [hn] at hm
    simp only at hm
    rcases key with e | e | e
    · left
      have := g1_next (X := (leftD c L k).1) he.1.1 (by rw [← e]; exact hlt)
      rw [← e] at this
      have e2 : L[k].r * (dLev c L k + 1) = L[k].r * dLev c L k + L[k].r := by grind
      omega
    · right; left
      have := g1_next (X := (leftD c L k).2.1) he.2.1.1 (by rw [← e]; exact hlt)
      rw [← e] at this
      have e2 : L[k].g * (dLev c L k + 1) = L[k].g * dLev c L k + L[k].g := by grind
      omega
    · right; right
      have := g1_next (X := (leftD c L k).2.2) he.2.2.1 (by rw [← e]; exact hlt)
      rw [← e] at this
      have e2 : L[k].b * (dLev c L k + 1) = L[k].b * dLev c L k + L[k].b := by grind
      omega
theorem gv_le {S c : Int} (h : S ≤ 65535 * c) : min (rdv S 65535) 65535 ≤ c := by
  have : rdv S 65535 ≤ c := rdv_le (by omega) (by omega)
  omega
theorem within_gv {c : Int × Int × Int} {L : List Em} (hL : EmsLv L) (c0 : 0 ≤ c.1 ∧ 0 ≤ c.2.1 ∧ 0 ≤ c.2.2) : gvC Em.r L (dLev c L) ≤ c.1 ∧ gvC Em.g L (dLev c L) ≤ c.2.1 ∧ gvC Em.b L (dLev c L) ≤ c.2.2 := by
  obtain ⟨s1, s2, s3⟩ := left_sum c L L.length (Nat.le_refl _)
  obtain ⟨p1, p2, p3⟩ := left_ok hL c0 L.length (Nat.le_refl _)
  unfold gvC
  exact ⟨gv_le (by omega), gv_le (by omega), gv_le (by omega)⟩
end Go.Proofs.YtdmpdcggepfaiaaDoor.within
