/- Levels of the program. -/
import Derived.Test.YtgpblgalklegkaaFanP
namespace Go.Proofs.Ytgpblgalklegkaa
open Go.RowKit Go.Sort

/-- What Levels says and gives. -/
def PLv (l : List Int) (B Wn n : Int) (w : World) (e : Ending) (w' : World) : Prop := ∃ v, e = .returned (.tuple #[v, .int .i64 (lvX l B Wn n)]) ∧ Slc w' v (lvR l B Wn n) ∧ Bl w w'

set_option maxRecDepth 100000 in
set_option maxHeartbeats 1600000 in
theorem levels_prog (sv : Value) (l : List Int) (B Wn n : Int) (w : World) (h : Slc w sv l) :
    Calls Try.prog 6 #[.agg #[sv, .int .i64 B, .int .i64 Wn], .int .i64 n] w (PLv l B Wn n w) := by
  have HC := Lib.hid (fun w' (m : Bl w w') => checkFan_prog sv l B Wn w' (h.bl m))
  have HL := Lib.hid (fun (hg : fanX l B Wn = 0) (N : Nat) (hN : N ≤ 400) w' (m : Bl w w') => fan_levels sv l B Wn N w' (h.bl m) hg hN)
  obtain ⟨o, cap, rfl, _⟩ := h
  obtain ⟨W0, hW0⟩ : ∃ W0, W0 = w.alloc (.cells #[.slice o l.length cap, .int .i64 B, .int .i64 Wn] 24) := ⟨_, rfl⟩
  have bW : Bl w W0 := by rw [hW0]; exact (Bl.refl w).alloc _
  have KK := Lib.hid (fun w' (m : Bl W0 w') => show w'.cell? ⟨w.heap.size, 0, none⟩ = some (.slice o l.length cap) ∧ w'.cell? ⟨w.heap.size, 1, none⟩ = some (.int .i64 B) ∧ w'.cell? ⟨w.heap.size, 2, none⟩ = some (.int .i64 Wn) from ⟨m.cell (by rw [hW0]; simp), m.cell (by rw [hW0]; simp), m.cell (by rw [hW0]; simp)⟩)
  obtain ⟨k0, k1, k2⟩ := KK.out _ (Bl.refl _)
  unfold PLv
  by_cases hX : fanX l B Wn = 0
  · have HL := Lib.hid (HL.out hX)
    by_cases hn : 0 ≤ n ∧ n ≤ 400
    · have e : Hid (lvX l B Wn n = 0 ∧ lvR l B Wn n = fanL l B Wn n) := by
        have e : lvX l B Wn n = 0 := by unfold lvX; rw [if_neg (fun h => h hX), if_pos hn]
        exact ⟨e, by unfold lvR; rw [if_pos e]⟩
      rw [hX] at HC
      obtain ⟨N, hN⟩ : ∃ N : Nat, n = N := ⟨n.toNat, by omega⟩
      subst hN
      have HL := Lib.hid (HL.out N (by omega))
      obtain ⟨n0, n1⟩ := hn
      go_enter Try.func6, Try.ntmps6
      go_wp2_with fail
      rw [← hW0]
      clear hW0
      refine (HC.out _ bW).mono ?_
      rintro e' w1 ⟨rfl, m1⟩
      clear k0 k1 k2
      obtain ⟨k0, k1, k2⟩ := KK.out _ m1
      go_wp2_with fail
      refine (HL.out _ (bW.trans m1)).mono ?_
      rintro e' w3 ⟨v, rfl, hs, m3⟩
      have HS := Lib.hid hs
      clear hs
      go_wp2_with fail
      go_returns
      exact ⟨v, by rw [e.out.1]; rfl, by rw [e.out.2]; exact HS.out, (bW.trans m1).trans m3⟩
    · have e : Hid (lvX l B Wn n = 1 ∧ lvR l B Wn n = []) := by
        have e : lvX l B Wn n = 1 := by unfold lvX; rw [if_neg (fun h => h hX), if_neg hn]
        exact ⟨e, by unfold lvR; rw [if_neg (by omega)]⟩
      rw [hX] at HC
      clear HL
      have key : n < 0 ∨ (0 ≤ n ∧ 400 < n) := by omega
      clear hn
      rcases key with h1 | ⟨h1, h2⟩
      all_goals
        go_enter Try.func6, Try.ntmps6
        go_wp2_with fail
        rw [← hW0]
        clear hW0
        refine (HC.out _ bW).mono ?_
        rintro e' w1 ⟨rfl, m1⟩
        go_wp2_with fail
        go_returns
        exact ⟨_, by rw [e.out.1]; rfl, by rw [e.out.2]; exact slc_nil _ _ _ (by omega), bW.trans m1⟩
  · have e : Hid (lvX l B Wn n = fanX l B Wn ∧ lvR l B Wn n = []) := by
      have e : lvX l B Wn n = fanX l B Wn := by unfold lvX; rw [if_pos hX]
      exact ⟨e, by unfold lvR; rw [if_neg (by omega)]⟩
    have t1 : (fanX l B Wn != 0) = true := by simpa using hX
    generalize fanX l B Wn = X at *
    clear HL hX
    go_enter Try.func6, Try.ntmps6
    go_wp2_with fail
    rw [← hW0]
    clear hW0
    refine (HC.out _ bW).mono ?_
    rintro e' w1 ⟨rfl, m1⟩
    go_wp2_with fail
    go_returns
    exact ⟨_, by rw [e.out.1]; rfl, by rw [e.out.2]; exact slc_nil _ _ _ (by omega), bW.trans m1⟩
end Go.Proofs.Ytgpblgalklegkaa
