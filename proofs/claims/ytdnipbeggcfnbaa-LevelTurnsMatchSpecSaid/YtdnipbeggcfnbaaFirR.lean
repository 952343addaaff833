/- The search of the reference, for a level that is known to be given. -/
import Derived.Test.YtdnipbeggcfnbaaFadeC
namespace Go.Proofs.Ytdnipbeggcfnbaa
open Go.RowKit

/-- What holds in the search. -/
structure FirRel (p : Int → Bool) (lo hi x y : Int) : Prop where
  a : lo ≤ x
  b : x ≤ y
  c : y ≤ hi
  d : y < hi → p y = true
  e : ∀ z, lo ≤ z → z < x → p z = false
def FirR (W : World) (p : Int → Bool) (lo hi : Int) (v1 v2 : Value) (wr : World) : Prop := ∃ x y : Int, v1 = .int .i64 x ∧ v2 = .int .i64 y ∧ FirRel p lo hi x y ∧ Bl W wr

set_option maxRecDepth 100000 in
set_option maxHeartbeats 3200000 in
theorem first_ref0 (F T S Dl Tm k lo hi n : Int) (sv : Value) (l : List (Int × Int)) (w : World) (h : PtsAny w sv l) (hc : ckFade F T S Dl Tm k l = 0)
    (hL : ∀ w' t, Bl w w' → 0 ≤ t → t ≤ 36000000 → Calls Try.prog 63 #[.agg #[.int .i64 F, .int .i64 T, .int .i64 S, .int .i64 Dl, .int .i64 Tm, .int .i64 k, sv], .int .i64 t] w' fun e w'' => e = .returned (.int .i64 (fadeAt F T S Dl Tm k l t)) ∧ Bl w' w'') (lo0 : 0 ≤ lo) (hlh : lo ≤ hi) (hi1 : hi ≤ 36000000) :
    Calls Try.prog 68 #[.agg #[.int .i64 F, .int .i64 T, .int .i64 S, .int .i64 Dl, .int .i64 Tm, .int .i64 k, sv], .int .i64 lo, .int .i64 hi, .int .i64 n] w fun e w' => e = .returned (.int .i64 (fstP (fun t => rchB F T n (fadeAt F T S Dl Tm k l t)) lo hi)) ∧ Bl w w' := by
  obtain ⟨hok, hcc⟩ := okFade_of hc
  obtain ⟨o, ln, cap, hsv⟩ : ∃ o n cap, sv = .slice o n cap := by
    rcases h with ⟨o, cap, rfl, rfl⟩ | ⟨b, off, cap, rfl, h2, h3⟩
    · exact ⟨_, _, _, rfl⟩
    · exact ⟨_, _, _, rfl⟩
  have TL := Lib.hid hL
  have TR := Lib.hid (fun w' a => reached_ref F T S Dl Tm k a n sv o ln cap hsv w')
  have HM := Lib.hid (fun s t (hst : s ≤ t) (hs : rchB F T n (fadeAt F T S Dl Tm k l s) = true) => rchB_mono hok hst hs)
  clear h hc hok hcc hL
  subst hsv
  go_enter Try.func68, Try.ntmps68
  go_wp2_with fail
  generalize hW0 : w.alloc (.cells #[.int .i64 F, .int .i64 T, .int .i64 S, .int .i64 Dl, .int .i64 Tm, .int .i64 k, .slice o ln cap] 46) = W0
  have hbl0 : Bl w W0 := by rw [← hW0]; exact (Bl.refl w).alloc _
  obtain ⟨k0, k1, k2, k3, k4, k5, k6⟩ := own7b (W := w) (W' := W0) (n := w.heap.size) (a := .int .i64 F) (b := .int .i64 T) (c := .int .i64 S) (d := .int .i64 Dl) (x := .int .i64 Tm) (y := .int .i64 k) (z := .slice o ln cap) (t := 46) rfl (by rw [hW0]; exact Bl.refl _)
  clear hW0
  go_loopw [1, 2] (fun v1 v2 wr => FirR W0 (fun t => rchB F T n (fadeAt F T S Dl Tm k l t)) lo hi v1 v2 wr) (fun v1 v2 _ => (intOf v2 - intOf v1).toNat)
  case atStart => exact ⟨lo, hi, rfl, rfl, ⟨Int.le_refl _, hlh, Int.le_refl _, fun h => absurd h (by omega), fun z h1 h2 => absurd h1 (by omega)⟩, Bl.refl _⟩
  case round =>
    obtain ⟨x, y, rfl, rfl, hr, hbr⟩ := hrel
    have ha := hr.a
    have hb := hr.b
    have hc := hr.c
    have HR := Lib.hid hr
    clear hr
    by_cases hlt : x < y
    · have k0 := hbr.cell k0
      have k1 := hbr.cell k1
      have k2 := hbr.cell k2
      have k3 := hbr.cell k3
      have k4 := hbr.cell k4
      have k5 := hbr.cell k5
      have k6 := hbr.cell k6
      have s1 : IntKind.i64.wrap (x + y) = x + y := IntWalk.i64_in _ (by omega)
      have m0 : x ≤ (x + y) / 2 := by omega
      have m1 : (x + y) / 2 < y := by omega
      have TLm := fun w' (g : Bl w w') => TL.out w' ((x + y) / 2) g (by omega) (by omega)
      have TRm := fun w' => TR.out w' (fadeAt F T S Dl Tm k l ((x + y) / 2))
      have hbw : Bl w wr := hbl0.trans hbr
      cases hp : rchB F T n (fadeAt F T S Dl Tm k l ((x + y) / 2)) with
      | true =>
        rw [hp] at TRm
        have HN : Hid (FirRel (fun t => rchB F T n (fadeAt F T S Dl Tm k l t)) lo hi x ((x + y) / 2)) := ⟨ha, m0, by omega, fun _ => hp, HR.out.e⟩
        clear hp
        generalize fadeAt F T S Dl Tm k l ((x + y) / 2) = A at *
        have TLm := Lib.hid TLm
        have TRm := Lib.hid TRm
        go_wp2_with fail
        go_region_held3 (fun w' => w'.cell? ⟨w.heap.size, 0, none⟩ = some (.int .i64 F) ∧ w'.cell? ⟨w.heap.size, 1, none⟩ = some (.int .i64 T) ∧ w'.cell? ⟨w.heap.size, 2, none⟩ = some (.int .i64 S) ∧ w'.cell? ⟨w.heap.size, 3, none⟩ = some (.int .i64 Dl) ∧ w'.cell? ⟨w.heap.size, 4, none⟩ = some (.int .i64 Tm) ∧ w'.cell? ⟨w.heap.size, 5, none⟩ = some (.int .i64 k) ∧ w'.cell? ⟨w.heap.size, 6, none⟩ = some (.slice o ln cap))
          (refine ⟨Bl.cell (w := wr) ?_ k0, Bl.cell (w := wr) ?_ k1, Bl.cell (w := wr) ?_ k2, Bl.cell (w := wr) ?_ k3, Bl.cell (w := wr) ?_ k4, Bl.cell (w := wr) ?_ k5, Bl.cell (w := wr) ?_ k6⟩ <;> ((repeat (first | with_reducible exact Bl.refl _ | with_reducible assumption | with_reducible refine Bl.drew ?_ | with_reducible refine Bl.alloc ?_ _ | with_reducible refine Bl.trans ?_ (by assumption))); done))
          (first
            | (go_at_call 63; refine (TLm.out _ (by refine Bl.trans hbw ?_; ((repeat (first | with_reducible exact Bl.refl _ | with_reducible assumption | with_reducible refine Bl.drew ?_ | with_reducible refine Bl.alloc ?_ _ | with_reducible refine Bl.trans ?_ (by assumption))); done))).mono ?_; rintro e' w6 ⟨rfl, g4⟩)
            | (go_at_call 67; refine (TRm.out _).mono ?_; rintro e' w7 ⟨rfl, g5⟩))
        go_wp2
        go_roundw
        case rel => exact ⟨x, (x + y) / 2, rfl, rfl, HN.out, Bl.trans hbr (by ((repeat (first | with_reducible exact Bl.refl _ | with_reducible assumption | with_reducible refine Bl.drew ?_ | with_reducible refine Bl.alloc ?_ _ | with_reducible refine Bl.trans ?_ (by assumption))); done))⟩
        case measure => simp [intOf]; omega
      | false =>
        rw [hp] at TRm
        have HN : Hid (FirRel (fun t => rchB F T n (fadeAt F T S Dl Tm k l t)) lo hi ((x + y) / 2 + 1) y) := ⟨by omega, by omega, hc, HR.out.d, fun z h1 h2 => by
          show rchB F T n (fadeAt F T S Dl Tm k l z) = false
          rw [Bool.eq_false_iff]
          intro hz
          have := HM.out z ((x + y) / 2) (by omega) hz
          rw [hp] at this
          cases this⟩
        clear hp
        generalize fadeAt F T S Dl Tm k l ((x + y) / 2) = A at *
        have TLm := Lib.hid TLm
        have TRm := Lib.hid TRm
        go_wp2_with fail
        go_region_held3 (fun w' => w'.cell? ⟨w.heap.size, 0, none⟩ = some (.int .i64 F) ∧ w'.cell? ⟨w.heap.size, 1, none⟩ = some (.int .i64 T) ∧ w'.cell? ⟨w.heap.size, 2, none⟩ = some (.int .i64 S) ∧ w'.cell? ⟨w.heap.size, 3, none⟩ = some (.int .i64 Dl) ∧ w'.cell? ⟨w.heap.size, 4, none⟩ = some (.int .i64 Tm) ∧ w'.cell? ⟨w.heap.size, 5, none⟩ = some (.int .i64 k) ∧ w'.cell? ⟨w.heap.size, 6, none⟩ = some (.slice o ln cap))
          (refine ⟨Bl.cell (w := wr) ?_ k0, Bl.cell (w := wr) ?_ k1, Bl.cell (w := wr) ?_ k2, Bl.cell (w := wr) ?_ k3, Bl.cell (w := wr) ?_ k4, Bl.cell (w := wr) ?_ k5, Bl.cell (w := wr) ?_ k6⟩ <;> ((repeat (first | with_reducible exact Bl.refl _ | with_reducible assumption | with_reducible refine Bl.drew ?_ | with_reducible refine Bl.alloc ?_ _ | with_reducible refine Bl.trans ?_ (by assumption))); done))
          (first
            | (go_at_call 63; refine (TLm.out _ (by refine Bl.trans hbw ?_; ((repeat (first | with_reducible exact Bl.refl _ | with_reducible assumption | with_reducible refine Bl.drew ?_ | with_reducible refine Bl.alloc ?_ _ | with_reducible refine Bl.trans ?_ (by assumption))); done))).mono ?_; rintro e' w6 ⟨rfl, g4⟩)
            | (go_at_call 67; refine (TRm.out _).mono ?_; rintro e' w7 ⟨rfl, g5⟩))
        go_wp2
        go_roundw
        case rel => exact ⟨(x + y) / 2 + 1, y, rfl, rfl, HN.out, Bl.trans hbr (by ((repeat (first | with_reducible exact Bl.refl _ | with_reducible assumption | with_reducible refine Bl.drew ?_ | with_reducible refine Bl.alloc ?_ _ | with_reducible refine Bl.trans ?_ (by assumption))); done))⟩
        case measure => simp [intOf]; omega
    · obtain rfl : x = y := by omega
      have e : Hid (fstP (fun t => rchB F T n (fadeAt F T S Dl Tm k l t)) lo hi = x) := fst_eq ha hc HR.out.e (fun z h1 h2 => HM.out x z h1 (HR.out.d (by omega)))
      go_wp2
      go_returns
      exact ⟨ret_int e.out.symm, hbl0.trans hbr⟩

end Go.Proofs.Ytdnipbeggcfnbaa
