/- The reference's numbers of digits: guess. -/
import Derived.Test.YtdienaigmkaheaaNatD
namespace Go.Proofs.Ytdienaigmkaheaa
open Go.RowKit

/-- The places from j on, n + 1 of them. -/
structure GuessAt (T Y x1 x2 x3 y1 y2 : Int) : Prop where
  bx1 : 0 ≤ x1 ∧ x1 < 1000000000
  bx2 : 0 ≤ x2 ∧ x2 < 1000000000
  bx3 : 0 ≤ x3 ∧ x3 < 1000000000
  by1 : 500000000 ≤ y1 ∧ y1 < 1000000000
  by2 : 0 ≤ y2 ∧ y2 < 1000000000
  parts : ∃ P yl tl : Int, 0 < P ∧ 0 ≤ yl ∧ yl < P ∧ 0 ≤ tl ∧ tl < P ∧ Y = (y1 * 1000000000 + y2) * P + yl ∧ T = ((x1 * 1000000000 + x2) * 1000000000 + x3) * P + tl
  less : T < Y * 1000000000

theorem GuessAt.top {T Y x1 x2 x3 y1 y2 : Int} (h : GuessAt T Y x1 x2 x3 y1 y2) : x1 * 1000000000 + x2 < (y1 + 1) * 1000000000 := by
  obtain ⟨⟨a1, a2⟩, ⟨a3, a4⟩, ⟨a5, a6⟩, ⟨b1, b2⟩, ⟨b3, b4⟩, ⟨P, yl, tl, hP, h1, h2, h3, h4, hY, hT⟩, hl⟩ := h
  generalize x1 * 1000000000 + x2 = t at *
  -- otherwise T would not be less than Y times the base
  by_cases hc : t < (y1 + 1) * 1000000000
  · exact hc
  · exfalso
    have e1 := Int.mul_le_mul_of_nonneg_right (show (y1 + 1) * 1000000000 * 1000000000 ≤ t * 1000000000 + x3 by omega) (Int.le_of_lt hP)
    have e2 := Int.mul_le_mul_of_nonneg_right (show y1 * 1000000000 + y2 ≤ (y1 + 1) * 1000000000 - 1 by omega) (Int.le_of_lt hP)
    have e3 : ((y1 + 1) * 1000000000 - 1) * P = (y1 + 1) * 1000000000 * P - P := by grind
    have e4 : (y1 + 1) * 1000000000 * 1000000000 * P = 1000000000 * ((y1 + 1) * 1000000000 * P) := by grind
    omega
theorem GuessAt.start {T Y x1 x2 x3 y1 y2 : Int} (h : GuessAt T Y x1 x2 x3 y1 y2) (q r : Int) (he : x1 * 1000000000 + x2 = q * y1 + r) (r0 : 0 ≤ r) (r1 : r < y1) : T < (q + 1) * Y ∧ q ≤ 1000000001 ∧ 0 ≤ q := by
  have ht := h.top
  obtain ⟨⟨a1, a2⟩, ⟨a3, a4⟩, ⟨a5, a6⟩, ⟨b1, b2⟩, ⟨b3, b4⟩, ⟨P, yl, tl, hP, h1, h2, h3, h4, hY, hT⟩, hl⟩ := h
  have ht0 : 0 ≤ x1 * 1000000000 + x2 := by omega
  generalize x1 * 1000000000 + x2 = t at *
  have hq0 : 0 ≤ q := by
    by_cases hc : 0 ≤ q
    · exact hc
    · have := Int.mul_le_mul_of_nonneg_right (show q ≤ -1 by omega) (show 0 ≤ y1 by omega)
      omega
  refine ⟨?_, ?_, hq0⟩
  · have e0 : (q + 1) * y1 = q * y1 + y1 := by grind
    have e1 := Int.mul_le_mul_of_nonneg_right (show t * 1000000000 + x3 + 1 ≤ (q + 1) * y1 * 1000000000 by omega) (Int.le_of_lt hP)
    have e2 : (t * 1000000000 + x3 + 1) * P = (t * 1000000000 + x3) * P + P := by grind
    have e3 : (q + 1) * Y = (q + 1) * y1 * 1000000000 * P + (q + 1) * (y2 * P + yl) := by rw [hY]; grind
    have e4 : 0 ≤ (q + 1) * (y2 * P + yl) := Int.mul_nonneg (by omega) (by have := Int.mul_nonneg b3 (Int.le_of_lt hP); omega)
    omega
  · by_cases hc : q ≤ 1000000001
    · exact hc
    · have := Int.mul_le_mul_of_nonneg_right (show 1000000002 ≤ q by omega) (show 0 ≤ y1 by omega)
      omega
/-- Too great: one less will still do. -/
theorem GuessAt.down {T Y x1 x2 x3 y1 y2 : Int} (h : GuessAt T Y x1 x2 x3 y1 y2) (q r : Int) (he : x1 * 1000000000 + x2 = q * y1 + r) (q0 : 0 ≤ q) (hc : 1000000000 ≤ q ∨ r * 1000000000 + x3 < q * y2) : T < q * Y := by
  obtain ⟨⟨a1, a2⟩, ⟨a3, a4⟩, ⟨a5, a6⟩, ⟨b1, b2⟩, ⟨b3, b4⟩, ⟨P, yl, tl, hP, h1, h2, h3, h4, hY, hT⟩, hl⟩ := h
  rcases hc with hc | hc
  · have hY0 : 0 ≤ Y := by
      have := Int.mul_nonneg (show 0 ≤ y1 * 1000000000 + y2 by omega) (Int.le_of_lt hP)
      omega
    have := Int.mul_le_mul_of_nonneg_right hc hY0
    have e : Y * 1000000000 = 1000000000 * Y := by grind
    omega
  · rw [he] at hT
    have e0 : q * (y1 * 1000000000 + y2) = q * y1 * 1000000000 + q * y2 := by grind
    have e1 := Int.mul_le_mul_of_nonneg_right (show (q * y1 + r) * 1000000000 + x3 + 1 ≤ q * (y1 * 1000000000 + y2) by omega) (Int.le_of_lt hP)
    have e2 : ((q * y1 + r) * 1000000000 + x3 + 1) * P = ((q * y1 + r) * 1000000000 + x3) * P + P := by grind
    have e3 : q * Y = q * (y1 * 1000000000 + y2) * P + q * yl := by rw [hY]; grind
    have e4 := Int.mul_nonneg q0 h1
    omega
/-- Not too great by more than one. -/
theorem GuessAt.up {T Y x1 x2 x3 y1 y2 : Int} (h : GuessAt T Y x1 x2 x3 y1 y2) (q r : Int) (he : x1 * 1000000000 + x2 = q * y1 + r) (q0 : 0 ≤ q) (q1 : q < 1000000000) (hc : q * y2 ≤ r * 1000000000 + x3) : (q - 1) * Y ≤ T := by
  obtain ⟨⟨a1, a2⟩, ⟨a3, a4⟩, ⟨a5, a6⟩, ⟨b1, b2⟩, ⟨b3, b4⟩, ⟨P, yl, tl, hP, h1, h2, h3, h4, hY, hT⟩, hl⟩ := h
  rw [he] at hT
  have e0 : q * (y1 * 1000000000 + y2) = q * y1 * 1000000000 + q * y2 := by grind
  have e1 := Int.mul_le_mul_of_nonneg_right (show q * (y1 * 1000000000 + y2) ≤ (q * y1 + r) * 1000000000 + x3 by omega) (Int.le_of_lt hP)
  have e3 : (q - 1) * Y = q * (y1 * 1000000000 + y2) * P + q * yl - Y := by rw [hY]; grind
  have e4 : q * yl ≤ 1000000000 * P := Int.mul_le_mul (by omega) (by omega) h1 (by omega)
  have e5 := Int.mul_le_mul_of_nonneg_right (show 1000000000 ≤ y1 * 1000000000 + y2 by omega) (Int.le_of_lt hP)
  omega
theorem GuessAt.stop {T Y x1 x2 x3 y1 y2 : Int} (h : GuessAt T Y x1 x2 x3 y1 y2) (q r : Int) (he : x1 * 1000000000 + x2 = q * y1 + r) (q0 : 0 ≤ q) (hr : 1000000000 ≤ r) : q < 1000000000 ∧ (q - 1) * Y ≤ T := by
  have ht := h.top
  have hq : q < 1000000000 := by
    by_cases hc : q < 1000000000
    · exact hc
    · have := Int.mul_le_mul_of_nonneg_right (show 1000000000 ≤ q by omega) (show 0 ≤ y1 by have := h.by1; omega)
      omega
  refine ⟨hq, h.up q r he q0 hq ?_⟩
  have := prod_bd q0 hq h.by2.1 h.by2.2
  have := h.bx3
  omega

/-- What 'guess' gives: right, or one too great. -/
def PGuess (T Y : Int) (w : World) (e : Ending) (w' : World) : Prop := ∃ q : Int, e = .returned (.int .i64 q) ∧ 0 ≤ q ∧ q < 1000000000 ∧ T < (q + 1) * Y ∧ (q - 1) * Y ≤ T ∧ Bl w w'

def GuRel (w : World) (T Y t y1 : Int) (v9 v10 : Value) (wr : World) : Prop := ∃ q r : Int, v9 = .int .i64 q ∧ v10 = .int .i64 r ∧ 0 ≤ q ∧ q ≤ 1000000001 ∧ 0 ≤ r ∧ r < 1000000000 ∧ t = q * y1 + r ∧ T < (q + 1) * Y ∧ Bl w wr

set_option maxRecDepth 100000 in
set_option maxHeartbeats 3200000 in
theorem guess_any (bx ox cx Lx bY oY cY n j : Nat) (x1 x2 x3 y1 y2 T Y : Int) (w : World) (hn : 2 ≤ n) (hn2 : n ≤ 1000000) (hL : j + n < Lx) (hL2 : Lx ≤ 1000000) (H : GuessAt T Y x1 x2 x3 y1 y2)
    (c1 : w.cell? ⟨bx, ox + (j + n), none⟩ = some (.int .i64 x1)) (c2 : w.cell? ⟨bx, ox + (j + n - 1), none⟩ = some (.int .i64 x2)) (c3 : w.cell? ⟨bx, ox + (j + n - 2), none⟩ = some (.int .i64 x3))
    (d1 : w.cell? ⟨bY, oY + (n - 1), none⟩ = some (.int .i64 y1)) (d2 : w.cell? ⟨bY, oY + (n - 2), none⟩ = some (.int .i64 y2)) :
    Calls Try.prog 75 #[.slice (some ⟨bx, ox, none⟩) Lx cx, .slice (some ⟨bY, oY, none⟩) n cY, .int .i64 j] w (PGuess T Y w) := by
  have HG := Lib.hid H
  have bx1 := H.bx1
  have bx2 := H.bx2
  have bx3 := H.bx3
  have by1 := H.by1
  have by2 := H.by2
  clear H
  obtain ⟨m, hm⟩ : ∃ m, m = j + n := ⟨_, rfl⟩
  obtain ⟨p, hp⟩ : ∃ p, p = j + n - 1 := ⟨_, rfl⟩
  obtain ⟨s, hs⟩ : ∃ s, s = j + n - 2 := ⟨_, rfl⟩
  obtain ⟨u, hu⟩ : ∃ u, u = n - 1 := ⟨_, rfl⟩
  obtain ⟨v, hv⟩ : ∃ v, v = n - 2 := ⟨_, rfl⟩
  rw [← hm] at c1
  rw [← hp] at c2
  rw [← hs] at c3
  rw [← hu] at d1
  rw [← hv] at d2
  have w1 : IntKind.i64.wrap ((j : Int) + (n : Int)) = (m : Int) := by rw [IntWalk.i64_in _ (by omega)]; omega
  have w2 : IntKind.i64.wrap ((m : Int) - 1) = (p : Int) := by rw [IntWalk.i64_in _ (by omega)]; omega
  have w3 : IntKind.i64.wrap ((m : Int) - 2) = (s : Int) := by rw [IntWalk.i64_in _ (by omega)]; omega
  have w4 : IntKind.i64.wrap ((n : Int) - 1) = (u : Int) := by rw [IntWalk.i64_in _ (by omega)]; omega
  have w5 : IntKind.i64.wrap ((n : Int) - 2) = (v : Int) := by rw [IntWalk.i64_in _ (by omega)]; omega
  have k1 : (m : Int) < (Lx : Int) := by omega
  have k2 : (p : Int) < (Lx : Int) := by omega
  have k3 : (s : Int) < (Lx : Int) := by omega
  have k4 : (u : Int) < (n : Int) := by omega
  have k5 : (v : Int) < (n : Int) := by omega
  have HM := Lib.hid hm
  clear hm hp hs hu hv
  have wt1 : IntKind.i64.wrap (x1 * 1000000000) = x1 * 1000000000 := IntWalk.i64_in _ (by omega)
  have wt2 : IntKind.i64.wrap (x1 * 1000000000 + x2) = x1 * 1000000000 + x2 := IntWalk.i64_in _ (by omega)
  go_enter Try.func75, Try.ntmps75
  go_wp2_with fail
  go_quiet (fail)
  go_wp2_with fail
  have hd0 : 0 ≤ (x1 * 1000000000 + x2) % y1 := Int.emod_nonneg _ (by omega)
  have hd1 : (x1 * 1000000000 + x2) % y1 < y1 := Int.emod_lt_of_pos _ (by omega)
  have hde : x1 * 1000000000 + x2 = (x1 * 1000000000 + x2) / y1 * y1 + (x1 * 1000000000 + x2) % y1 := by
    have h := Int.mul_ediv_add_emod (x1 * 1000000000 + x2) y1
    rw [Int.mul_comm y1] at h
    exact h.symm
  obtain ⟨g1, g2, g3⟩ := HG.out.start _ _ hde hd0 hd1
  go_loopw [9, 10] (fun v9 v10 wr => GuRel w T Y (x1 * 1000000000 + x2) y1 v9 v10 wr) (fun v9 _ _ => (intOf v9).toNat)
  case atStart => exact ⟨_, _, rfl, rfl, g3, g2, hd0, by omega, hde, g1, (Bl.refl w).drewN _⟩
  case round =>
    obtain ⟨q, r, rfl, rfl, q0, q1, r0, r1, he, ht, hbl⟩ := hrel
    have HE := Lib.hid he
    have HT := Lib.hid ht
    clear he ht hde hd0 hd1 g1 g2 g3
    have e1 := hbl.cell c1
    have e2 := hbl.cell c2
    have e3 := hbl.cell c3
    have e4 := hbl.cell d1
    have e5 := hbl.cell d2
    have hqy : 0 ≤ q * y2 ∧ q * y2 ≤ 1000000001000000000 := by
      have h1 := Int.mul_nonneg q0 by2.1
      have h2 : q * y2 ≤ 1000000001 * 1000000000 := Int.mul_le_mul q1 (by omega) by2.1 (by omega)
      omega
    have v1 : IntKind.i64.wrap (q * y2) = q * y2 := IntWalk.i64_in _ (by omega)
    have v2 : IntKind.i64.wrap (r * 1000000000) = r * 1000000000 := IntWalk.i64_in _ (by omega)
    have v3 : IntKind.i64.wrap (r * 1000000000 + x3) = r * 1000000000 + x3 := IntWalk.i64_in _ (by omega)
    by_cases hc : 1000000000 ≤ q ∨ r * 1000000000 + x3 < q * y2
    · have HD := Lib.hid (HG.out.down q r HE.out q0 hc)
      have hq1 : 1 ≤ q := by
        rcases hc with h | h
        · omega
        · by_cases hz : 1 ≤ q
          · exact hz
          · obtain rfl : q = 0 := by omega
            rw [Int.zero_mul] at h
            omega
      have HE2 : Hid (x1 * 1000000000 + x2 = (q - 1) * y1 + (r + y1)) := by
        show _ = _
        rw [HE.out]; grind
      have HD2 : Hid (T < (q - 1 + 1) * Y) := by show _ < _; rw [Int.sub_add_cancel]; exact HD.out
      by_cases hq : 1000000000 ≤ q
      · have b1 : decide (1000000000 ≤ q) = true := by simpa using hq
        by_cases hr : 1000000000 ≤ r + y1
        · obtain ⟨s1, s2⟩ := HG.out.stop (q - 1) (r + y1) HE2.out (by omega) hr
          clear hc v1 v2 v3
          go_wp2_with fail
          go_quiet (fail)
          go_wp2_with fail
          go_returns
          exact ⟨q - 1, rfl, by omega, s1, HD2.out, s2, hbl.drewN _⟩
        · clear hc v1 v2 v3
          go_wp2_with fail
          go_quiet (fail)
          go_wp2_with fail
          go_roundw
          case rel => exact ⟨q - 1, r + y1, rfl, rfl, by omega, by omega, by omega, by omega, HE2.out, HD2.out, hbl.drewN _⟩
          case measure => simp [intOf]; omega
      · have b1 : decide (1000000000 ≤ q) = false := by simpa using hq
        have hc2 : r * 1000000000 + x3 < q * y2 := by omega
        have b2 : decide (r * 1000000000 + x3 < q * y2) = true := by simpa using hc2
        by_cases hr : 1000000000 ≤ r + y1
        · obtain ⟨s1, s2⟩ := HG.out.stop (q - 1) (r + y1) HE2.out (by omega) hr
          clear hc
          go_wp2_with fail
          go_quiet (fail)
          go_wp2_with fail
          go_returns
          exact ⟨q - 1, rfl, by omega, s1, HD2.out, s2, hbl.drewN _⟩
        · clear hc
          go_wp2_with fail
          go_quiet (fail)
          go_wp2_with fail
          go_roundw
          case rel => exact ⟨q - 1, r + y1, rfl, rfl, by omega, by omega, by omega, by omega, HE2.out, HD2.out, hbl.drewN _⟩
          case measure => simp [intOf]; omega
    · have hq : q < 1000000000 := by omega
      have hc2 : q * y2 ≤ r * 1000000000 + x3 := by omega
      have b1 : decide (1000000000 ≤ q) = false := by simpa using hq
      have b2 : decide (r * 1000000000 + x3 < q * y2) = false := by simpa using hc2
      have s2 := HG.out.up q r HE.out q0 hq hc2
      clear hc
      go_wp2_with fail
      go_quiet (fail)
      go_wp2_with fail
      go_returns
      exact ⟨q, rfl, q0, hq, HT.out, s2, hbl.drewN _⟩
end Go.Proofs.Ytdienaigmkaheaa
