/- Tones of colours: plain arithmetic, no program in it. -/
import Derived.WalkKit
namespace Go.Proofs.YtfamnaekelmkpaaGreatDoor
/-- n / d, rounded. -/
def rdv (n d : Int) : Int := (2 * n + d) / (2 * d)

theorem rdv_lo {n d : Int} (hd : 0 < d) : rdv n d * (2 * d) ≤ 2 * n + d := by
  unfold rdv; exact Int.ediv_mul_le _ (by omega)
theorem rdv_hi {n d : Int} (hd : 0 < d) : 2 * n + d < (rdv n d + 1) * (2 * d) := by
  unfold rdv; exact Int.lt_ediv_add_one_mul_self _ (by omega)
theorem rdv_le {n d k : Int} (hd : 0 < d) (h : 2 * n + d < (k + 1) * (2 * d)) : rdv n d ≤ k := by
  unfold rdv; have := (Int.ediv_lt_iff_lt_mul (c := 2 * d) (by omega)).2 h; omega
theorem le_rdv {n d k : Int} (hd : 0 < d) (h : k * (2 * d) ≤ 2 * n + d) : k ≤ rdv n d := by
  unfold rdv; exact (Int.le_ediv_iff_mul_le (by omega)).2 h
/-- How far the rounded number is. -/
theorem rdv_near {n d : Int} (hd : 0 < d) : -d ≤ 2 * (rdv n d * d - n) ∧ 2 * (rdv n d * d - n) ≤ d := by
  have h1 := rdv_lo (n := n) hd
  have h2 := rdv_hi (n := n) hd
  generalize rdv n d = k at *
  have e1 : k * (2 * d) = 2 * (k * d) := by grind
  have e2 : (k + 1) * (2 * d) = 2 * (k * d) + 2 * d := by grind
  omega

/-- The Value without a part of the Saturation. -/
def lessV (V S f : Int) : Int := rdv (V * (4294836225 - S * f)) 4294836225

theorem bd {a f : Int} (h1 : -65535 ≤ 2 * a) (h2 : 2 * a ≤ 65535) (f0 : 0 ≤ f) (f1 : f ≤ 65535) : -4294836225 ≤ 2 * (a * f) ∧ 2 * (a * f) ≤ 4294836225 := by
  have k1 := Int.mul_le_mul_of_nonneg_right h2 f0
  have k2 := Int.mul_le_mul_of_nonneg_right h1 f0
  have e1 : 2 * a * f = 2 * (a * f) := by grind
  omega

/-- Where Saturation and f are near to what they are rounded from, the value less its part is near. -/
theorem less_near {M S f d x : Int} (hM : 0 < M) (hM1 : M ≤ 65535) (hd : 0 < d) (hd1 : d ≤ M) (f0 : 0 ≤ f) (f1 : f ≤ 65535)
    (hS : -M ≤ 2 * (S * M - d * 65535) ∧ 2 * (S * M - d * 65535) ≤ M) (hf : -d ≤ 2 * (f * d - x * 65535) ∧ 2 * (f * d - x * 65535) ≤ d) :
    M - x - 1 ≤ lessV M S f ∧ lessV M S f ≤ M - x + 1 := by
  obtain ⟨a, ha⟩ : ∃ a, a = S * M - d * 65535 := ⟨_, rfl⟩
  obtain ⟨b, hb⟩ : ∃ b, b = f * d - x * 65535 := ⟨_, rfl⟩
  rw [← ha] at hS
  rw [← hb] at hf
  have e : M * (4294836225 - S * f) = M * 4294836225 - (x * 4294836225 + b * 65535 + a * f) := by
    have e1 : S * M = d * 65535 + a := by omega
    have e2 : f * d = x * 65535 + b := by omega
    have e3 : M * (4294836225 - S * f) = M * 4294836225 - (S * M) * f := by grind
    rw [e3, e1]
    have e4 : (d * 65535 + a) * f = (f * d) * 65535 + a * f := by grind
    rw [e4, e2]
    omega
  have k := bd (a := a) (f := f) (by omega) (by omega) f0 f1
  unfold lessV
  rw [e]
  generalize a * f = p at *
  constructor
  · exact le_rdv (by omega) (by omega)
  · exact rdv_le (by omega) (by omega)

theorem less_le {V S f : Int} (hV : 0 ≤ V) (hS : 0 ≤ S) (hf : 0 ≤ f) : lessV V S f ≤ V := by
  unfold lessV
  apply rdv_le (by omega)
  have h := Int.mul_nonneg hV (Int.mul_nonneg hS hf)
  have e : V * (4294836225 - S * f) = V * 4294836225 - V * (S * f) := by grind
  omega
theorem less_zero (V S : Int) : lessV V S 0 = V := by
  unfold lessV rdv; rw [Int.mul_zero]; omega
theorem less_nonneg {V S f : Int} (hV : 0 ≤ V) (hS1 : S ≤ 65535) (hf : 0 ≤ f) (hf1 : f ≤ 65535) : 0 ≤ lessV V S f := by
  unfold lessV
  apply le_rdv (by omega)
  have h1 := Int.mul_le_mul hS1 hf1 hf (by omega)
  have h2 := Int.mul_nonneg hV (show 0 ≤ 4294836225 - S * f by omega)
  omega

/-- The hue's number before it goes round. -/
theorem hue_split {d b k x : Int} (hd : 0 < d) (e : k * d + x = b) (hx : 0 ≤ x) (hx1 : x ≤ d) :
    ∃ f, rdv (b * 65535) d = k * 65535 + f ∧ 0 ≤ f ∧ f ≤ 65535 ∧ (f = 65535 → d ≤ 65535 → x = d) ∧ (-d ≤ 2 * (f * d - x * 65535) ∧ 2 * (f * d - x * 65535) ≤ d) := by
  refine ⟨rdv (x * 65535) d, ?_, ?_, ?_, ?_, rdv_near hd⟩
  · have h1 := rdv_lo (n := x * 65535) hd
    have h2 := rdv_hi (n := x * 65535) hd
    generalize rdv (x * 65535) d = f at *
    apply Int.le_antisymm
    · apply rdv_le hd
      have e1 : (k * 65535 + f + 1) * (2 * d) = 131070 * (k * d) + (f + 1) * (2 * d) := by grind
      omega
    · apply le_rdv hd
      have e1 : (k * 65535 + f) * (2 * d) = 131070 * (k * d) + f * (2 * d) := by grind
      omega
  · apply le_rdv hd; omega
  · apply rdv_le hd; have : (65535 + 1) * (2 * d) = 131072 * d := by omega
    omega
  · intro hf h
    have h1 := rdv_lo (n := x * 65535) hd
    rw [hf] at h1
    omega

/-- The colour of a sixth of the circle, and a rest. -/
def col (k f S V : Int) : Int × Int × Int :=
  if k = 0 then (V, lessV V S (65535 - f), lessV V S 65535)
  else if k = 1 then (lessV V S f, V, lessV V S 65535)
  else if k = 2 then (lessV V S 65535, V, lessV V S (65535 - f))
  else if k = 3 then (lessV V S 65535, lessV V S f, V)
  else if k = 4 then (lessV V S (65535 - f), lessV V S 65535, V)
  else (V, lessV V S 65535, lessV V S f)
def fromT (H S V : Int) : Int × Int × Int := col (H / 65535) (H % 65535) S V
theorem fromT_split {k f S V : Int} (f0 : 0 ≤ f) (f1 : f ≤ 65535) :
    fromT ((k * 65535 + f) % 393210) S V = if f = 65535 then col ((k + 1) % 6) 0 S V else col (k % 6) f S V := by
  unfold fromT
  split
  · have a : (k * 65535 + f) % 393210 / 65535 = (k + 1) % 6 := by omega
    have b : (k * 65535 + f) % 393210 % 65535 = 0 := by omega
    rw [a, b]
  · have a : (k * 65535 + f) % 393210 / 65535 = k % 6 := by omega
    have b : (k * 65535 + f) % 393210 % 65535 = f := by omega
    rw [a, b]

def mx3 (r g b : Int) : Int := max (max r g) b
def mn3 (r g b : Int) : Int := min (min r g) b
/-- The hue of a colour with this greatest component, and this span. -/
def hueC (r g b M d : Int) : Int :=
  (if M = r then rdv ((6 * d + (g - b)) * 65535) d else if M = g then rdv ((2 * d + (b - r)) * 65535) d else rdv ((4 * d + (r - g)) * 65535) d) % 393210
def toneC (r g b : Int) : Int × Int × Int :=
  if mx3 r g b = mn3 r g b then (0, 0, mx3 r g b)
  else (hueC r g b (mx3 r g b) (mx3 r g b - mn3 r g b), rdv ((mx3 r g b - mn3 r g b) * 65535) (mx3 r g b), mx3 r g b)

/-- A colour that is near to another one, with the same greatest component. -/
def Nr (c : Int × Int × Int) (r g b M : Int) : Prop :=
  (r - 2 ≤ c.1 ∧ c.1 ≤ r + 2) ∧ (g - 2 ≤ c.2.1 ∧ c.2.1 ≤ g + 2) ∧ (b - 2 ≤ c.2.2 ∧ c.2.2 ≤ b + 2) ∧ c.1 ≤ M ∧ c.2.1 ≤ M ∧ c.2.2 ≤ M ∧ (c.1 = M ∨ c.2.1 = M ∨ c.2.2 = M)

section
variable {M d S f x : Int} (hM : 0 < M) (hM1 : M ≤ 65535) (hd : 0 < d) (hd1 : d ≤ M) (f0 : 0 ≤ f) (f1 : f ≤ 65535) (S0 : 0 ≤ S)
  (hS : -M ≤ 2 * (S * M - d * 65535) ∧ 2 * (S * M - d * 65535) ≤ M) (hf : -d ≤ 2 * (f * d - x * 65535) ∧ 2 * (f * d - x * 65535) ≤ d)
include hM hM1 hd hd1 f0 f1 S0 hS hf
theorem three : (M - x - 1 ≤ lessV M S f ∧ lessV M S f ≤ M - x + 1) ∧ (M - (d - x) - 1 ≤ lessV M S (65535 - f) ∧ lessV M S (65535 - f) ≤ M - (d - x) + 1) ∧ (M - d - 1 ≤ lessV M S 65535 ∧ lessV M S 65535 ≤ M - d + 1) ∧
    lessV M S f ≤ M ∧ lessV M S (65535 - f) ≤ M ∧ lessV M S 65535 ≤ M ∧ lessV M S 0 = M := by
  refine ⟨less_near hM hM1 hd hd1 f0 f1 hS hf, less_near hM hM1 hd hd1 (by omega) (by omega) hS ?_, less_near hM hM1 hd hd1 (by omega) (by omega) hS (x := d) (by omega), less_le (by omega) S0 f0, less_le (by omega) S0 (by omega), less_le (by omega) S0 (by omega), less_zero _ _⟩
  have e : (65535 - f) * d = 65535 * d - f * d := by grind
  omega
end

theorem tone_near {r g b : Int} (r0 : 0 ≤ r) (r1 : r ≤ 65535) (g0 : 0 ≤ g) (g1 : g ≤ 65535) (b0 : 0 ≤ b) (b1 : b ≤ 65535) :
    Nr (fromT (toneC r g b).1 (toneC r g b).2.1 (toneC r g b).2.2) r g b (mx3 r g b) := by
  unfold toneC
  split
  · rename_i h
    unfold mx3 mn3 at *
    obtain ⟨rfl, rfl⟩ : r = g ∧ r = b := by omega
    show Nr (fromT 0 0 (max (max r r) r)) _ _ _ (max (max r r) r)
    rw [Int.max_self r, Int.max_self r]
    have e : fromT 0 0 r = (r, r, r) := by
      have h1 : ∀ f, lessV r 0 f = r := fun f => by unfold lessV rdv; rw [Int.zero_mul]; omega
      show col 0 0 0 r = _
      simp [col, h1]
    rw [e]
    refine ⟨?_, ?_, ?_, ?_, ?_, ?_, ?_⟩ <;> simp only <;> first | omega | simp
  · rename_i hne
    have hM : 0 < mx3 r g b := by unfold mx3 mn3 at *; omega
    have hM1 : mx3 r g b ≤ 65535 := by unfold mx3; omega
    have hd : 0 < mx3 r g b - mn3 r g b := by unfold mx3 mn3 at *; omega
    have hd1 : mx3 r g b - mn3 r g b ≤ mx3 r g b := by unfold mx3 mn3 at *; omega
    have hS := rdv_near (n := (mx3 r g b - mn3 r g b) * 65535) hM
    have S0 : 0 ≤ rdv ((mx3 r g b - mn3 r g b) * 65535) (mx3 r g b) := le_rdv hM (by omega)
    obtain ⟨m1, m2, m3, m4⟩ : mn3 r g b ≤ r ∧ mn3 r g b ≤ g ∧ mn3 r g b ≤ b ∧ (mn3 r g b = r ∨ mn3 r g b = g ∨ mn3 r g b = b) := by unfold mn3; omega
    obtain ⟨x1, x2, x3, x4⟩ : r ≤ mx3 r g b ∧ g ≤ mx3 r g b ∧ b ≤ mx3 r g b ∧ (mx3 r g b = r ∨ mx3 r g b = g ∨ mx3 r g b = b) := by unfold mx3; omega
    simp only
    generalize rdv ((mx3 r g b - mn3 r g b) * 65535) (mx3 r g b) = S at *
    generalize mx3 r g b = M at *
    generalize mn3 r g b = m at *
    have key : ∀ k x y : Int, 0 ≤ x → x ≤ M - m → k * (M - m) + x = y →
        (∀ f, 0 ≤ f → f ≤ 65535 → (-(M - m) ≤ 2 * (f * (M - m) - x * 65535) ∧ 2 * (f * (M - m) - x * 65535) ≤ M - m) → (f = 65535 → x = M - m) → Nr (if f = 65535 then col ((k + 1) % 6) 0 S M else col (k % 6) f S M) r g b M) →
        Nr (fromT (rdv (y * 65535) (M - m) % 393210) S M) r g b M := by
      intro k x y x0 x1 e H
      obtain ⟨f, h1, h2, h3, h4, h5⟩ := hue_split hd e x0 x1
      rw [h1, fromT_split h2 h3]
      exact H f h2 h3 h5 (fun hf => h4 hf (by omega))
    unfold hueC
    by_cases e1 : M = r
    · rw [if_pos e1]
      by_cases hb : b ≤ g
      · refine key 6 (g - b) _ (by omega) (by omega) rfl (fun f f0 f1 hf he => ?_)
        obtain ⟨t1, t2, t3, t4, t5, t6, t7⟩ := three hM hM1 hd hd1 f0 f1 S0 hS hf
        split
        · have := he ‹_›
          simp only [Nr, col]
          rw [if_neg (by decide), if_pos (by decide)]
          simp only [t7]; refine ⟨?_, ?_, ?_, ?_, ?_, ?_, ?_⟩ <;> first | omega | simp
        · simp only [Nr, col]
          rw [if_pos (by decide)]
          simp only; refine ⟨?_, ?_, ?_, ?_, ?_, ?_, ?_⟩ <;> first | omega | simp
      · refine key 5 (M - m + (g - b)) _ (by omega) (by omega) (by omega) (fun f f0 f1 hf he => ?_)
        obtain ⟨t1, t2, t3, t4, t5, t6, t7⟩ := three hM hM1 hd hd1 f0 f1 S0 hS hf
        split
        · have := he ‹_›
          omega
        · simp only [Nr, col]
          simp only [show (5 : Int) % 6 = 5 by decide, show ((5 : Int) = 0) = False by decide, show ((5 : Int) = 1) = False by decide, show ((5 : Int) = 2) = False by decide, show ((5 : Int) = 3) = False by decide, show ((5 : Int) = 4) = False by decide, if_false]
          refine ⟨?_, ?_, ?_, ?_, ?_, ?_, ?_⟩ <;> first | omega | simp
    · rw [if_neg e1]
      by_cases e2 : M = g
      · rw [if_pos e2]
        by_cases hb : r ≤ b
        · refine key 2 (b - r) _ (by omega) (by omega) rfl (fun f f0 f1 hf he => ?_)
          obtain ⟨t1, t2, t3, t4, t5, t6, t7⟩ := three hM hM1 hd hd1 f0 f1 S0 hS hf
          split
          · have := he ‹_›
            simp only [Nr, col]
            rw [if_neg (by decide), if_neg (by decide), if_neg (by decide), if_pos (by decide)]
            simp only [t7]; refine ⟨?_, ?_, ?_, ?_, ?_, ?_, ?_⟩ <;> first | omega | simp
          · simp only [Nr, col]
            rw [if_neg (by decide), if_neg (by decide), if_pos (by decide)]
            simp only; refine ⟨?_, ?_, ?_, ?_, ?_, ?_, ?_⟩ <;> first | omega | simp
        · refine key 1 (M - m + (b - r)) _ (by omega) (by omega) (by omega) (fun f f0 f1 hf he => ?_)
          obtain ⟨t1, t2, t3, t4, t5, t6, t7⟩ := three hM hM1 hd hd1 f0 f1 S0 hS hf
          split
          · have := he ‹_›
            omega
          · simp only [Nr, col]
            rw [if_neg (by decide), if_pos (by decide)]
            simp only; refine ⟨?_, ?_, ?_, ?_, ?_, ?_, ?_⟩ <;> first | omega | simp
      · rw [if_neg e2]
        by_cases hb : g ≤ r
        · refine key 4 (r - g) _ (by omega) (by omega) rfl (fun f f0 f1 hf he => ?_)
          obtain ⟨t1, t2, t3, t4, t5, t6, t7⟩ := three hM hM1 hd hd1 f0 f1 S0 hS hf
          split
          · have := he ‹_›
            omega
          · simp only [Nr, col]
            rw [if_neg (by decide), if_neg (by decide), if_neg (by decide), if_neg (by decide), if_pos (by decide)]
            simp only; refine ⟨?_, ?_, ?_, ?_, ?_, ?_, ?_⟩ <;> first | omega | simp
        · refine key 3 (M - m + (r - g)) _ (by omega) (by omega) (by omega) (fun f f0 f1 hf he => ?_)
          obtain ⟨t1, t2, t3, t4, t5, t6, t7⟩ := three hM hM1 hd hd1 f0 f1 S0 hS hf
          split
          · have := he ‹_›
            omega
          · simp only [Nr, col]
            rw [if_neg (by decide), if_neg (by decide), if_neg (by decide), if_pos (by decide)]
            simp only; refine ⟨?_, ?_, ?_, ?_, ?_, ?_, ?_⟩ <;> first | omega | simp
end Go.Proofs.YtfamnaekelmkpaaGreatDoor
