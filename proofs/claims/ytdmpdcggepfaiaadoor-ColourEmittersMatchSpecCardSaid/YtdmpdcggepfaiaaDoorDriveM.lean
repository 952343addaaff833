/- Emitters that are driven: plain arithmetic. -/
import Derived.Test.YtdmpdcggepfaiaaDoorSum
namespace Go.Proofs.YtdmpdcggepfaiaaDoor

/-- The greatest level of one component. -/
def g1 (x X : Int) : Int := if x = 0 then 65535 else min (X / x) 65535
theorem g1_ok {x X : Int} (x0 : 0 ≤ x) (X0 : 0 ≤ X) : 0 ≤ g1 x X ∧ g1 x X ≤ 65535 ∧ x * g1 x X ≤ X := by
  unfold g1
  split
  · rename_i h; subst h; omega
  · have h1 := Int.ediv_nonneg X0 x0
    have h2 : x * (X / x) ≤ X := Int.mul_ediv_self_le (by omega)
    have h3 := Int.mul_le_mul_of_nonneg_left (show min (X / x) 65535 ≤ X / x by omega) x0
    omega
/-- The greatest level of an emitter. -/
def gLev (e : Em) (X : Int × Int × Int) : Int := mn3 (g1 e.r X.1) (g1 e.g X.2.1) (g1 e.b X.2.2)
theorem gLev_ok {e : Em} {X : Int × Int × Int} (hr : 0 ≤ e.r) (hg : 0 ≤ e.g) (hb : 0 ≤ e.b) (X0 : 0 ≤ X.1) (X1 : 0 ≤ X.2.1) (X2 : 0 ≤ X.2.2) :
    (0 ≤ gLev e X ∧ gLev e X ≤ 65535) ∧ e.r * gLev e X ≤ X.1 ∧ e.g * gLev e X ≤ X.2.1 ∧ e.b * gLev e X ≤ X.2.2 := by
  obtain ⟨a0, a1, a2⟩ := g1_ok hr X0
  obtain ⟨b0, b1, b2⟩ := g1_ok hg X1
  obtain ⟨c0, c1, c2⟩ := g1_ok hb X2
  have h : 0 ≤ gLev e X ∧ gLev e X ≤ g1 e.r X.1 ∧ gLev e X ≤ g1 e.g X.2.1 ∧ gLev e X ≤ g1 e.b X.2.2 := by unfold gLev mn3; omega
  have k1 := Int.mul_le_mul_of_nonneg_left h.2.1 hr
  have k2 := Int.mul_le_mul_of_nonneg_left h.2.2.1 hg
  have k3 := Int.mul_le_mul_of_nonneg_left h.2.2.2 hb
  omega
/-- What is left ahead of emitter k. -/
def leftD (c : Int × Int × Int) (L : List Em) : Nat → Int × Int × Int
  | 0 => (65535 * c.1, 65535 * c.2.1, 65535 * c.2.2)
  | k + 1 => match L[k]? with
    | some e => ((leftD c L k).1 - e.r * gLev e (leftD c L k), (leftD c L k).2.1 - e.g * gLev e (leftD c L k), (leftD c L k).2.2 - e.b * gLev e (leftD c L k))
    | none => leftD c L k
/-- The level of emitter k. -/
def dLev (c : Int × Int × Int) (L : List Em) (k : Nat) : Int := match L[k]? with
  | some e => gLev e (leftD c L k)
  | none => 0
theorem dLev_at (c : Int × Int × Int) (L : List Em) (k : Nat) (h : k < L.length) : dLev c L k = gLev L[k] (leftD c L k) := by
  unfold dLev; rw [List.getElem?_eq_getElem h]
theorem leftD_at (c : Int × Int × Int) (L : List Em) (k : Nat) (h : k < L.length) :
    leftD c L (k + 1) = ((leftD c L k).1 - L[k].r * dLev c L k, (leftD c L k).2.1 - L[k].g * dLev c L k, (leftD c L k).2.2 - L[k].b * dLev c L k) := by
  rw [dLev_at c L k h]
  show (match L[k]? with | some e => _ | none => _) = _
  rw [List.getElem?_eq_getElem h]
section
variable {c : Int × Int × Int} {L : List Em} (hL : EmsLv L) (c0 : 0 ≤ c.1 ∧ 0 ≤ c.2.1 ∧ 0 ≤ c.2.2)
include hL c0
theorem left_ok : ∀ (k : Nat), k ≤ L.length → 0 ≤ (leftD c L k).1 ∧ 0 ≤ (leftD c L k).2.1 ∧ 0 ≤ (leftD c L k).2.2
  | 0, _ => by show 0 ≤ 65535 * c.1 ∧ 0 ≤ 65535 * c.2.1 ∧ 0 ≤ 65535 * c.2.2; omega
  | k + 1, h => by
    have hk : k < L.length := by omega
    have ih := left_ok k (by omega)
    have he := hL L[k] (List.getElem_mem hk)
    obtain ⟨_, h1, h2, h3⟩ := gLev_ok (e := L[k]) (X := leftD c L k) he.1.1 he.2.1.1 he.2.2.1 ih.1 ih.2.1 ih.2.2
    rw [leftD_at c L k hk, dLev_at c L k hk]
    simp only
    omega
theorem dLev_ok (k : Nat) : 0 ≤ dLev c L k ∧ dLev c L k ≤ 65535 := by
  by_cases hk : k < L.length
  · have ih := left_ok hL c0 k (by omega)
    have he := hL L[k] (List.getElem_mem hk)
    rw [dLev_at c L k hk]
    exact (gLev_ok (e := L[k]) (X := leftD c L k) he.1.1 he.2.1.1 he.2.2.1 ih.1 ih.2.1 ih.2.2).1
  · unfold dLev; rw [List.getElem?_eq_none (by omega)]; simp
end
/-- What is left is what is not yet given. -/
theorem left_sum (c : Int × Int × Int) (L : List Em) : ∀ (k : Nat), k ≤ L.length → (leftD c L k).1 = 65535 * c.1 - sumN (fun i => emC Em.r L i * dLev c L i) k ∧ (leftD c L k).2.1 = 65535 * c.2.1 - sumN (fun i => emC Em.g L i * dLev c L i) k ∧ (leftD c L k).2.2 = 65535 * c.2.2 - sumN (fun i => emC Em.b L i * dLev c L i) k
  | 0, _ => by show 65535 * c.1 = 65535 * c.1 - 0 ∧ 65535 * c.2.1 = 65535 * c.2.1 - 0 ∧ 65535 * c.2.2 = 65535 * c.2.2 - 0; omega
  | k + 1, h => by
    have hk : k < L.length := by omega
    obtain ⟨h1, h2, h3⟩ := left_sum c L k (by omega)
    rw [leftD_at c L k hk]
    show (leftD c L k).1 - L[k].r * dLev c L k = 65535 * c.1 - (sumN (fun i => emC Em.r L i * dLev c L i) k + emC Em.r L k * dLev c L k) ∧ (leftD c L k).2.1 - L[k].g * dLev c L k = 65535 * c.2.1 - (sumN (fun i => emC Em.g L i * dLev c L i) k + emC Em.g L k * dLev c L k) ∧ (leftD c L k).2.2 - L[k].b * dLev c L k = 65535 * c.2.2 - (sumN (fun i => emC Em.b L i * dLev c L i) k + emC Em.b L k * dLev c L k)
    rw [emC_at _ _ _ hk, emC_at _ _ _ hk, emC_at _ _ _ hk, h1, h2, h3]
    omega
/-- Levels that are 0 from k on add nothing. -/
theorem sum_part (a d : Nat → Int) (k : Nat) : ∀ (n : Nat), k ≤ n → sumN (fun i => a i * (if i < k then d i else 0)) n = sumN (fun i => a i * d i) k
  | 0, h => by obtain rfl : k = 0 := by omega
               rfl
  | n + 1, h => by
    by_cases hk : k = n + 1
    · subst hk
      exact sumN_congr _ (fun i hi => by rw [if_pos hi])
    · show sumN _ n + a n * (if n < k then d n else 0) = _
      rw [sum_part a d k n (by omega), if_neg (by omega), Int.mul_zero, Int.add_zero]
end Go.Proofs.YtdmpdcggepfaiaaDoor
