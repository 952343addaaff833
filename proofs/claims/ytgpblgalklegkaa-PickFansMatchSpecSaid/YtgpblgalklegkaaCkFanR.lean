/- CheckFan of the reference. -/
import Derived.Test.YtgpblgalklegkaaFanM
import Derived.Test.YtgpblgalklegkaaRefL
namespace Go.Proofs.Ytgpblgalklegkaa
open Go.RowKit Go.Sort

theorem isLevel_sureR (n : Int) (v : Bool) (h : isLev n = v) (w : World) :
    Calls Try.prog 20 #[.int .i64 n] w fun e w' => e = .returned (.bool v) ∧ w = w' := by
  subst h; exact isLevel_ref n w
theorem within_sureR (n m : Int) (v : Bool) (h : (decide (1 ≤ n) && decide (n ≤ m)) = v) (w : World) :
    Calls Try.prog 16 #[.int .i64 n, .int .i64 1, .int .i64 m] w fun e w' => e = .returned (.bool v) ∧ w = w' := by
  subst h; exact within_any n 1 m w

set_option maxRecDepth 100000 in
set_option maxHeartbeats 3200000 in
theorem checkFan_ref (sv : Value) (xs : List Int) (B W : Int) (w : World) (h : Slc w sv xs) :
    Calls Try.prog 9 #[.agg #[sv, .int .i64 B, .int .i64 W]] w fun e w' => e = .returned (.int .i64 (fanX xs B W)) ∧ Bl w w' := by
  obtain ⟨o, cap, rfl, ⟨hc1, hc2⟩, hcell⟩ := h
  have hB : Bl w (w.alloc (.cells #[.slice o xs.length cap, .int .i64 B, .int .i64 W] 24)) := (Bl.refl w).alloc _
  have HB := Lib.hid hB
  clear hB
  by_cases h1 : xs.length = 0
  · have e : Hid (fanX xs B W = 8) := by show _ = _; unfold fanX; rw [if_pos h1]
    have t1 : ((xs.length : Int) == 0) = true := by rw [beq_iff_eq]; omega
    clear hcell h1
    go_enter Try.func9, Try.ntmps9
    go_wp2_with fail
    go_returns
    exact ⟨ret_int e.out.symm, HB.out⟩
  by_cases h2 : 20 < xs.length
  · have e : Hid (fanX xs B W = 2) := by show _ = _; unfold fanX; rw [if_neg h1, if_pos h2]
    have t1 : ((xs.length : Int) == 0) = false := by rw [beq_eq_false_iff_ne]; omega
    have t2 : (20 : Int) < (xs.length : Int) := by omega
    clear hcell h1 h2
    go_enter Try.func9, Try.ntmps9
    go_wp2_with fail
    go_returns
    exact ⟨ret_int e.out.symm, HB.out⟩
  have t1 : ((xs.length : Int) == 0) = false := by rw [beq_eq_false_iff_ne]; omega
  have t2 : (xs.length : Int) ≤ 20 := by omega
  have HX : Hid (fanX xs B W = if xs.all isLev = false then 1 else if (1 ≤ B ∧ B ≤ 9999) ∧ (1 ≤ W ∧ W ≤ 50) then 0 else 1) := by show _ = _; unfold fanX; rw [if_neg h1, if_neg h2]
  obtain ⟨b, off, rfl, _⟩ := hcell 0 (by omega)
  have HC : Hid (∀ i, i < xs.length → w.cell? ⟨b, off + i, none⟩ = some (.int .i64 (xs[i]?.getD 0))) := fun i hi => by
    obtain ⟨b', off', e', hc⟩ := hcell i hi
    cases e'
    exact hc
  have HI := Lib.hid (fun n v (h : isLev n = v) w' => isLevel_sureR n v h w')
  have HW := Lib.hid (fun n m v (h : (decide (1 ≤ n) && decide (n ≤ m)) = v) w' => within_sureR n m v h w')
  clear hcell h1 h2
  obtain ⟨W0, hW0⟩ : ∃ W0, W0 = w.alloc (.cells #[.slice (some ⟨b, off, none⟩) xs.length cap, .int .i64 B, .int .i64 W] 24) := ⟨_, rfl⟩
  have bW : Bl w W0 := by rw [hW0]; exact HB.out
  have KK := Lib.hid (fun w' (m : Bl W0 w') => show w'.cell? ⟨w.heap.size, 1, none⟩ = some (.int .i64 B) ∧ w'.cell? ⟨w.heap.size, 2, none⟩ = some (.int .i64 W) from ⟨m.cell (by rw [hW0]; simp), m.cell (by rw [hW0]; simp)⟩)
  have k0 : W0.cell? ⟨w.heap.size, 0, none⟩ = some (.slice (some ⟨b, off, none⟩) xs.length cap) := by rw [hW0]; simp
  clear HB
  go_enter Try.func9, Try.ntmps9
  go_wp2_with fail
  rw [← hW0]
  clear hW0
  go_loopw [18] (fun i wr => ∃ k : Nat, k ≤ xs.length ∧ i = .int .i64 k ∧ Hid (allLev xs k) ∧ wr = W0) (fun i _ => xs.length - (intOf i).toNat)
  case atStart => exact ⟨0, Nat.zero_le _, rfl, Lib.hid (fun i hi => absurd hi (Nat.not_lt_zero _)), rfl⟩
  case round =>
    obtain ⟨k, hk, rfl, HL, rfl⟩ := hrel
    by_cases hlt : k < xs.length
    · have hcell := bW.cell (HC.out k hlt)
      cases hz : isLev (xs[k]?.getD 0) with
      | false =>
        have e : Hid (fanX xs B W = 1) := by show _ = _; rw [HX.out, if_pos (allLev_not hlt hz)]
        have HI1 := Lib.hid (fun w' => HI.out _ _ hz w')
        generalize xs[k]?.getD 0 = x at *
        clear hz
        go_wp2_with fail
        refine (HI1.out _).mono ?_
        rintro e' w1 ⟨rfl, rfl⟩
        go_wp2_with fail
        go_returns
        exact ⟨ret_int e.out.symm, bW⟩
      | true =>
        have hn : Hid (allLev xs (k + 1)) := fun i hi => by
          rcases Nat.lt_or_ge i k with h | h
          · exact HL.out i h
          · obtain rfl : i = k := by omega
            exact hz
        have HI1 := Lib.hid (fun w' => HI.out _ _ hz w')
        generalize xs[k]?.getD 0 = x at *
        clear hz
        go_wp2_with fail
        refine (HI1.out _).mono ?_
        rintro e' w1 ⟨rfl, rfl⟩
        go_wp2_with fail
        go_roundw
        case rel => exact ⟨k + 1, by omega, by go_num, hn, trivial⟩
        case measure => simp [intOf]; omega
    · obtain rfl : k = xs.length := by omega
      obtain ⟨k1, k2⟩ := KK.out _ (Bl.refl _)
      have hX : Hid (fanX xs B W = if (1 ≤ B ∧ B ≤ 9999) ∧ (1 ≤ W ∧ W ≤ 50) then 0 else 1) := by show _ = _; rw [HX.out, if_neg (by rw [(allLev_iff xs xs.length (Nat.le_refl _)).2 HL.out |> fun h => (by rwa [List.take_length] at h : xs.all isLev = true)]; decide)]
      by_cases hB : 1 ≤ B ∧ B ≤ 9999
      · have H1 := Lib.hid (fun w' => HW.out B 9999 true (by simp [hB.1, hB.2]) w')
        by_cases hW : 1 ≤ W ∧ W ≤ 50
        · have H2 := Lib.hid (fun w' => HW.out W 50 true (by simp [hW.1, hW.2]) w')
          have e : Hid (fanX xs B W = 0) := by show _ = _; rw [hX.out, if_pos ⟨hB, hW⟩]
          clear hB hW
          go_wp2_with fail
          refine (H1.out _).mono ?_
          rintro e' w1 ⟨rfl, rfl⟩
          go_wp2_with fail
          refine (H2.out _).mono ?_
          rintro e' w1 ⟨rfl, rfl⟩
          go_wp2_with fail
          go_returns
          exact ⟨ret_int e.out.symm, bW⟩
        · have H2 := Lib.hid (fun w' => HW.out W 50 false (by rw [Bool.eq_false_iff]; intro hh; simp only [Bool.and_eq_true, decide_eq_true_eq] at hh; exact hW hh) w')
          have e : Hid (fanX xs B W = 1) := by show _ = _; rw [hX.out, if_neg (fun h => hW h.2)]
          clear hB hW
          go_wp2_with fail
          refine (H1.out _).mono ?_
          rintro e' w1 ⟨rfl, rfl⟩
          go_wp2_with fail
          refine (H2.out _).mono ?_
          rintro e' w1 ⟨rfl, rfl⟩
          go_wp2_with fail
          go_returns
          exact ⟨ret_int e.out.symm, bW⟩
      · have H1 := Lib.hid (fun w' => HW.out B 9999 false (by rw [Bool.eq_false_iff]; intro hh; simp only [Bool.and_eq_true, decide_eq_true_eq] at hh; exact hB hh) w')
        have e : Hid (fanX xs B W = 1) := by show _ = _; rw [hX.out, if_neg (fun h => hB h.1)]
        clear hB
        go_wp2_with fail
        refine (H1.out _).mono ?_
        rintro e' w1 ⟨rfl, rfl⟩
        go_wp2_with fail
        go_returns
        exact ⟨ret_int e.out.symm, bW⟩
end Go.Proofs.Ytgpblgalklegkaa
