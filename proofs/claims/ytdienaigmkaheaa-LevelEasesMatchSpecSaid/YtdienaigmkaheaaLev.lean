/- Levels: isLevel, areLevels. -/
import Derived.Test.YtdienaigmkaheaaOf
import Derived.Test.YtdienaigmkaheaaLevI
namespace Go.Proofs.Ytdienaigmkaheaa
open Go.RowKit Go.Sort

/-- Are the first k all levels? -/
def allLev (zs : List Int) (k : Nat) : Prop := ∀ i, i < k → isLev (zs[i]?.getD 0) = true
theorem allLev_iff (zs : List Int) (n : Nat) (h : n ≤ zs.length) : (zs.take n).all isLev = true ↔ allLev zs n := by
  rw [List.all_eq_true]
  constructor
  · intro H i hi
    apply H
    rw [List.getElem?_eq_getElem (by omega), Option.getD_some]
    exact List.mem_take_iff_getElem.2 ⟨i, by omega, rfl⟩
  · intro H x hx
    obtain ⟨i, hi, rfl⟩ := List.mem_take_iff_getElem.1 hx
    have := H i (by omega)
    rwa [List.getElem?_eq_getElem (by omega), Option.getD_some] at this

set_option maxHeartbeats 400000 in
theorem areLevels_any (b off len cap : Nat) (zs : List Int) (w : World) (hl : len ≤ zs.length) (hm : len ≤ 9223372036854775807) (hc : ∀ i, i < len → w.cell? ⟨b, off + i, none⟩ = some (.int .i64 (zs[i]?.getD 0))) :
    Calls Try.prog 17 #[.slice (some ⟨b, off, none⟩) len cap] w fun e w' => e = .returned (.bool ((zs.take len).all isLev)) ∧ w = w' := by
  have HC := Lib.hid hc
  clear hc
  go_enter Try.func17, Try.ntmps17
  go_wp2
  go_loop [7] (fun v7 => ∃ k : Nat, k ≤ len ∧ v7 = .int .i64 k ∧ allLev zs k) (fun v7 => len - (intOf v7).toNat)
  case atStart => exact ⟨0, Nat.zero_le _, rfl, fun i hi => absurd hi (Nat.not_lt_zero _)⟩
  case round =>
    obtain ⟨k, hk, rfl, ha⟩ := hrel
    have HA := Lib.hid ha
    clear ha
    by_cases hlt : k < len
    · have hcell := HC.out k hlt
      cases hz : isLev (zs[k]?.getD 0) with
      | true =>
        have HZ := Lib.hid hz
        clear hz
        have hI := fun w => isLevel_any (zs[k]?.getD 0) w
        rw [HZ.out] at hI
        go_wp2_with (go_at_call 27; refine (hI _).mono ?_; rintro e w' ⟨rfl, rfl⟩)
        go_round
        case rel => exact ⟨k + 1, by omega, by go_num, fun i hi => by
          by_cases h : i < k
          · exact HA.out i h
          · obtain rfl : i = k := by omega
            exact HZ.out⟩
        case measure => simp [intOf]; omega
      | false =>
        have HZ := Lib.hid hz
        clear hz
        have hI := fun w => isLevel_any (zs[k]?.getD 0) w
        rw [HZ.out] at hI
        go_wp2_with (go_at_call 27; refine (hI _).mono ?_; rintro e w' ⟨rfl, rfl⟩)
        go_ret
        refine ⟨ret_bool ?_, rfl⟩
        symm
        rw [Bool.eq_false_iff]
        intro h
        have := (allLev_iff zs len hl).1 h k hlt
        rw [HZ.out] at this
        cases this
    · obtain rfl : k = len := by omega
      go_wp2
      go_ret
      exact ⟨ret_bool ((allLev_iff zs _ hl).2 HA.out).symm, rfl⟩

set_option maxHeartbeats 400000 in
theorem areLevels_nil (w : World) :
    Calls Try.prog 17 #[.slice none 0 0] w fun e w' => e = .returned (.bool true) ∧ w = w' := by
  go_enter Try.func17, Try.ntmps17
  go_wp2
  refine wp_loop_rounds 1 ?_
  rw [rounds_succ]
  go_wp2
  go_ret
  exact ⟨rfl, rfl⟩

theorem are2 (a b : Int) (w : World) :
    Calls Try.prog 17 #[.slice (some ⟨w.heap.size, 0, none⟩) 2 2] (w.alloc (.cells #[.int .i64 a, .int .i64 b] 3)) fun e w' => e = .returned (.bool (isLev a && isLev b)) ∧ w.alloc (.cells #[.int .i64 a, .int .i64 b] 3) = w' :=
  (areLevels_any w.heap.size 0 2 2 [a, b] _ (by simp) (by omega) (fun i hi => by
    match i, hi with
    | 0, _ => simp
    | 1, _ => simp)).mono fun _ _ ⟨he, hw⟩ => ⟨by rw [he]; simp, hw⟩


theorem are2n (a b : Int) (n : Nat) (w : World) (hn : n = w.heap.size) :
    Calls Try.prog 17 #[.slice (some ⟨n, 0, none⟩) 2 2] (w.alloc (.cells #[.int .i64 a, .int .i64 b] 3)) fun e w' => e = .returned (.bool (isLev a && isLev b)) ∧ w.alloc (.cells #[.int .i64 a, .int .i64 b] 3) = w' := by
  subst hn; exact are2 a b w
end Go.Proofs.Ytdienaigmkaheaa
