/- FixtureLibrariesMatchSpec: CheckLibrary, Text, Named and CheckProfile answer as the reference does, for all profiles and texts, with no condition. The listed variables are tied to the program's text by the card. -/
import Derived.Test.YtcidldomnifdeaaDoorFxPR
import Derived.Deep.RegionHeld3
import Derived.Test.YtcidldomnifdeaaDoorRefI
import Derived.Test.YtcidldomnifdeaaDoorLvT
import Derived.Test.YtcidldomnifdeaaDoorFxTt
import Derived.Test.YtcidldomnifdeaaDoorBl
import Derived.Test.YtcidldomnifdeaaDoorFxL
import Derived.Test.YtcidldomnifdeaaDoorGr
import Derived.ProofKit
import Derived.OpenShut
import Derived.Handy
import Derived.Deep.Slices
import Derived.Test.YtcidldomnifdeaaDoorTie
import Derived.Test.YtcidldomnifdeaaDoorCards
import Derived.LaidMore
import Derived.Lay
import Derived.SevenTiedAt
import Derived.Shelf.Vars
import Derived.Lib.LaidTab
import Derived.Stop.LaidErr
import Derived.MakeChecks
import Derived.Test.YtcidldomnifdeaaDoorFxTp
import Derived.Test.YtcidldomnifdeaaDoorFxM
import Derived.SizedLaws
/- CheckProfile of the reference. -/
namespace Go.Proofs.YtcidldomnifdeaaDoor
open Go.RowKit Go.Sort

theorem ParVal.take {w : World} {o : Option Addr} {cap : Nat} {L : List Par} (h : ParVal w (.slice o L.length cap) L) {k : Nat} (hk : k ≤ L.length) : ParVal w (.slice o k cap) (L.take k) := by
  obtain ⟨o', c', e, h2, h3⟩ := h
  obtain ⟨rfl, rfl⟩ : o = o' ∧ cap = c' := by cases e; exact ⟨rfl, rfl⟩
  have hl : (L.take k).length = k := by rw [List.length_take]; omega
  refine ⟨o, cap, by rw [hl], ⟨by omega, h2.2⟩, fun hp => ?_⟩
  obtain ⟨b, off, h4, h5⟩ := h3 (by omega)
  refine ⟨b, off, h4, fun i hi => ?_⟩
  rw [hl] at hi
  have : (L.take k)[i]'(by omega) = L[i] := by simp
  rw [this]
  exact h5 i (by omega)

set_option maxRecDepth 100000 in
set_option maxHeartbeats 6400000 in
theorem checkProfile_ref (x : Prof) (vp : Value) (w : World) (hp : ParVal w vp x.ps) (hok : ProfOk x) :
    Calls Tryd.prog 13 #[.agg #[.string x.name, .int .i64 x.size, vp]] w fun e w' => e = .returned (.int .i64 (ckProf x)) ∧ Bl w w' := by
  obtain ⟨hsz, hpo⟩ := hok
  obtain ⟨W0, hW0⟩ : ∃ W0, W0 = w.alloc (.cells #[.string x.name, .int .i64 x.size, vp] 29) := ⟨_, rfl⟩
  have bW0 : Bl w W0 := by rw [hW0]; exact (Bl.refl w).alloc _
  have HC := Lib.hid (show ∀ w', Bl W0 w' → CelF w' w.heap.size 0 x vp from fun w' g => CelF.bl (by rw [hW0]; exact CelF.new _ _ _ _) g)
  have HPv := Lib.hid (hp.bl bW0)
  have HPO := Lib.hid hpo
  obtain ⟨o, cap, rfl, hcap, _⟩ := hp
  obtain ⟨d0, d1, d2⟩ := HC.out W0 (Bl.refl _)
  have hW := hW0.symm
  clear hW0 hpo
  cases h1 : isNm (nmF x) with
  | false =>
    have HN := Lib.hid (fun w => isNmR_is x.name false h1 w hsz)
    have er : Hid (ckProf x = 5) := by show _ = _; unfold ckProf; rw [if_pos h1]
    clear h1
    go_enter Tryd.func13, Tryd.ntmps13
    go_wp2_with (go_at_call 39; refine (HN.out _).mono ?_; rintro e w1 ⟨rfl, rfl⟩)
    go_returns
    exact ⟨ret_int er.out.symm, bW0⟩
  | true =>
  have HN := Lib.hid (fun w => isNmR_is x.name true h1 w hsz)
  have e1 : ¬ isNm (nmF x) = false := by rw [h1]; decide
  clear h1
  by_cases h2 : x.size < 1 ∨ 512 < x.size
  · have HW := Lib.hid (fun w => withinR_is x.size 1 512 false (btw_false h2) w)
    have er : Hid (ckProf x = 1) := by show _ = _; unfold ckProf; rw [if_neg e1, if_pos h2]
    clear e1 h2
    go_enter Tryd.func13, Tryd.ntmps13
    go_wp2_with (first
      | (go_at_call 39; refine (HN.out _).mono ?_; rintro e w1 ⟨rfl, rfl⟩)
      | (go_at_call 40; refine (HW.out _).mono ?_; rintro e w1 ⟨rfl, rfl⟩))
    go_returns
    exact ⟨ret_int er.out.symm, bW0⟩
  have HW := Lib.hid (fun w => withinR_is x.size 1 512 true (btw_true (by omega) (by omega)) w)
  by_cases h3 : x.ps.length = 0
  · have er : Hid (ckProf x = 8) := by show _ = _; unfold ckProf; rw [if_neg e1, if_neg h2, if_pos h3]
    have t1 : ((x.ps.length : Int) == 0) = true := by rw [beq_iff_eq]; omega
    clear e1 h2 h3
    go_enter Tryd.func13, Tryd.ntmps13
    go_wp2_with (first
      | (go_at_call 39; refine (HN.out _).mono ?_; rintro e w1 ⟨rfl, rfl⟩)
      | (go_at_call 40; refine (HW.out _).mono ?_; rintro e w1 ⟨rfl, rfl⟩))
    go_returns
    exact ⟨ret_int er.out.symm, bW0⟩
  have t1 : ((x.ps.length : Int) == 0) = false := by rw [beq_eq_false_iff_ne]; omega
  by_cases h4 : 40 < x.ps.length
  · have er : Hid (ckProf x = 2) := by show _ = _; unfold ckProf; rw [if_neg e1, if_neg h2, if_neg h3, if_pos h4]
    have t2 : (40 : Int) < (x.ps.length : Int) := by omega
    clear e1 h2 h3 h4
    go_enter Tryd.func13, Tryd.ntmps13
    go_wp2_with (first
      | (go_at_call 39; refine (HN.out _).mono ?_; rintro e w1 ⟨rfl, rfl⟩)
      | (go_at_call 40; refine (HW.out _).mono ?_; rintro e w1 ⟨rfl, rfl⟩))
    go_returns
    exact ⟨ret_int er.out.symm, bW0⟩
  have t2 : (x.ps.length : Int) ≤ 40 := by omega
  have er0 : Hid (ckProf x = ckPars x.size [] [] x.ps) := by show _ = _; unfold ckProf; rw [if_neg e1, if_neg h2, if_neg h3, if_neg h4]
  clear e1 h2 h3 h4
  go_enter Tryd.func13, Tryd.ntmps13
  go_wp2_with (first
    | (go_at_call 39; refine (HN.out _).mono ?_; rintro e w1 ⟨rfl, rfl⟩)
    | (go_at_call 40; refine (HW.out _).mono ?_; rintro e w1 ⟨rfl, rfl⟩))
  go_loopw [29] (fun vi wr => ∃ k : Nat, k ≤ x.ps.length ∧ vi = .int .i64 k ∧ Hid (ckProf x = ckPars x.size ((x.ps.take k).map nmP) ((x.ps.take k).flatMap slotsOf) (x.ps.drop k)) ∧ Hid (∀ e ∈ x.ps.take k, ParGood x.size e) ∧ Hid (Bl W0 wr)) (fun vi _ => x.ps.length - (intOf vi).toNat)
  case atStart => exact ⟨0, Nat.zero_le _, rfl, er0, (fun e he => by simp at he), Bl.refl _⟩
  case round =>
    obtain ⟨k, hk, rfl, HK, HG, HB⟩ := hrel
    rename World => wr
    clear d0 d1 d2
    obtain ⟨d0, d1, d2⟩ := HC.out _ HB.out
    have z3 : w.heap.size < wr.heap.size := World.block_lt_of_cell? _ _ d0
    by_cases hlt : k < x.ps.length
    · have HPr := Lib.hid (HPv.out.bl HB.out)
      obtain ⟨o', c', ev, _, hp'⟩ := HPv.out.bl HB.out
      obtain ⟨rfl, rfl⟩ : o = o' ∧ cap = c' := by cases ev; exact ⟨rfl, rfl⟩
      clear ev
      obtain ⟨b, off, rfl, hL⟩ := hp' (by omega)
      clear hp'
      have hstep := Lib.hid (ckPars_at x.ps k hlt x.size ((x.ps.take k).map nmP) ((x.ps.take k).flatMap slotsOf))
      have htk : Hid ((x.ps.take (k + 1)).map nmP = (x.ps.take k).map nmP ++ [nmP x.ps[k]]) := by
        show _ = _; rw [List.take_succ_eq_append_getElem hlt, List.map_append]; rfl
      have hti : Hid ((x.ps.take (k + 1)).flatMap slotsOf = (x.ps.take k).flatMap slotsOf ++ slotsOf x.ps[k]) := by
        show _ = _; rw [List.take_succ_eq_append_getElem hlt, List.flatMap_append]; simp
      have htg := Lib.hid (fun h2 => take_all (P := ParGood x.size) hlt HG.out h2)
      obtain ⟨vr, hcel, hrv⟩ := hL k hlt
      have hpk := HPO.out x.ps[k] (List.getElem_mem hlt)
      obtain ⟨y, hy⟩ : ∃ y, y = x.ps[k] := ⟨_, rfl⟩
      rw [← hy] at hstep htk hti htg hcel hrv hpk
      clear hy hL
      obtain ⟨orr, cr, evr⟩ : ∃ o c, vr = .slice o y.rs.length c := by obtain ⟨o, c, e, _⟩ := hrv; exact ⟨o, c, e⟩
      subst evr
      obtain ⟨c0, c1, c2, c3, c4, c5, c6⟩ := hcel
      have k1 : (k : Int) < (x.ps.length : Int) := by omega
      have kc : (k : Int) ≤ (cap : Int) := by have := hcap.1; omega
      have HCk := Lib.hid (fun w' (g : Bl wr w') => checkParam_ref y (.slice orr y.rs.length cr) (.slice (some ⟨b, off, none⟩) k cap) (x.ps.take k) x.size w' (hrv.bl g) ((HPr.out.bl g).take (Nat.le_of_lt hlt)) hpk (fun e he => HPO.out e (List.mem_of_mem_take he)) HG.out)
      clear hpk hrv
      generalize (x.ps.take k).map nmP = ns at *
      generalize (x.ps.take k).flatMap slotsOf = ss at *
      by_cases hz : ckPar x.size ns ss y = 0
      · have hn : Hid (ckProf x = ckPars x.size ((x.ps.take (k + 1)).map nmP) ((x.ps.take (k + 1)).flatMap slotsOf) (x.ps.drop (k + 1))) := by show _ = _; rw [HK.out, hstep.out, if_pos hz, htk.out, hti.out]
        have hg2 := Lib.hid (htg.out (ckPar_good hz).1)
        rw [hz] at HCk
        clear hstep HK htk hti htg hz
        go_wp2_with fail
        obtain ⟨W1, hW1⟩ : ∃ W1, W1 = wr.alloc (.cells #[.string y.name, .int .i64 y.grp, .int .i64 y.slot, .int .i64 y.fine, .int .i64 y.dflt, .bool y.snap, .slice orr y.rs.length cr] 46) := ⟨_, rfl⟩
        have b1 : Bl wr W1 := by rw [hW1]; exact (Bl.refl wr).alloc _
        have f0 : W1.cell? ⟨wr.heap.size, 0, none⟩ = some (.string y.name) := by rw [hW1]; simp
        have f1 : W1.cell? ⟨wr.heap.size, 1, none⟩ = some (.int .i64 y.grp) := by rw [hW1]; simp
        have f2 : W1.cell? ⟨wr.heap.size, 2, none⟩ = some (.int .i64 y.slot) := by rw [hW1]; simp
        have f3 : W1.cell? ⟨wr.heap.size, 3, none⟩ = some (.int .i64 y.fine) := by rw [hW1]; simp
        have f4 : W1.cell? ⟨wr.heap.size, 4, none⟩ = some (.int .i64 y.dflt) := by rw [hW1]; simp
        have f5 : W1.cell? ⟨wr.heap.size, 5, none⟩ = some (.bool y.snap) := by rw [hW1]; simp
        have f6 : W1.cell? ⟨wr.heap.size, 6, none⟩ = some (.slice orr y.rs.length cr) := by rw [hW1]; simp
        have f7 : W1.cell? ⟨w.heap.size, 1, none⟩ = some (.int .i64 x.size) := b1.cell d1
        have f8 : W1.cell? ⟨w.heap.size, 2, none⟩ = some (.slice (some ⟨b, off, none⟩) x.ps.length cap) := b1.cell d2
        rw [← hW1]
        clear hW1 c0 c1 c2 c3 c4 c5 c6 d0 d1 d2
        have bl1 : Bl W0 W1 := HB.out.trans b1
        have k0 := f0
        have k1' := f1
        have k2 := f2
        have k3 := f3
        have k4 := f4
        have k5 := f5
        have k6 := f6
        have k7 := f7
        have k8 := f8
        go_region_held3 (fun w' => w'.cell? ⟨wr.heap.size, 0, none⟩ = some (.string y.name) ∧ w'.cell? ⟨wr.heap.size, 1, none⟩ = some (.int .i64 y.grp) ∧ w'.cell? ⟨wr.heap.size, 2, none⟩ = some (.int .i64 y.slot) ∧ w'.cell? ⟨wr.heap.size, 3, none⟩ = some (.int .i64 y.fine) ∧ w'.cell? ⟨wr.heap.size, 4, none⟩ = some (.int .i64 y.dflt) ∧ w'.cell? ⟨wr.heap.size, 5, none⟩ = some (.bool y.snap) ∧ w'.cell? ⟨wr.heap.size, 6, none⟩ = some (.slice orr y.rs.length cr) ∧ w'.cell? ⟨w.heap.size, 1, none⟩ = some (.int .i64 x.size) ∧ w'.cell? ⟨w.heap.size, 2, none⟩ = some (.slice (some ⟨b, off, none⟩) x.ps.length cap))
          (refine ⟨Bl.cell (w := W1) ?_ k0, Bl.cell (w := W1) ?_ k1', Bl.cell (w := W1) ?_ k2, Bl.cell (w := W1) ?_ k3, Bl.cell (w := W1) ?_ k4, Bl.cell (w := W1) ?_ k5, Bl.cell (w := W1) ?_ k6, Bl.cell (w := W1) ?_ k7, Bl.cell (w := W1) ?_ k8⟩ <;> (((repeat (first | with_reducible exact Bl.refl _ | with_reducible assumption | with_reducible refine Bl.drew ?_ | with_reducible refine Bl.alloc ?_ _ | with_reducible refine Bl.trans ?_ (by assumption))); done); done))
          (first | (go_at_call 41; (with_reducible refine (HCk.out _ (b1.trans ?_)).mono ?_); (focus ((repeat (first | with_reducible exact Bl.refl _ | with_reducible assumption | with_reducible refine Bl.drew ?_ | with_reducible refine Bl.alloc ?_ _ | with_reducible refine Bl.trans ?_ (by assumption))); done)); rintro e' w6 ⟨rfl, m6⟩))
        all_goals
          go_wp2
          go_roundw
          case rel => exact ⟨k + 1, by omega, by go_num, hn, hg2, bl1.trans (by ((repeat (first | with_reducible exact Bl.refl _ | with_reducible assumption | with_reducible refine Bl.drew ?_ | with_reducible refine Bl.alloc ?_ _ | with_reducible refine Bl.trans ?_ (by assumption))); done))⟩
          case measure => simp [intOf]; omega
      · have er : Hid (ckProf x = ckPar x.size ns ss y) := by show _ = _; rw [HK.out, hstep.out, if_neg hz]
        have hzb : (ckPar x.size ns ss y != 0) = true := by simpa using hz
        clear hstep HK htk hti htg hz
        generalize ckPar x.size ns ss y = X at *
        go_wp2_with fail
        obtain ⟨W1, hW1⟩ : ∃ W1, W1 = wr.alloc (.cells #[.string y.name, .int .i64 y.grp, .int .i64 y.slot, .int .i64 y.fine, .int .i64 y.dflt, .bool y.snap, .slice orr y.rs.length cr] 46) := ⟨_, rfl⟩
        have b1 : Bl wr W1 := by rw [hW1]; exact (Bl.refl wr).alloc _
        have f0 : W1.cell? ⟨wr.heap.size, 0, none⟩ = some (.string y.name) := by rw [hW1]; simp
        have f1 : W1.cell? ⟨wr.heap.size, 1, none⟩ = some (.int .i64 y.grp) := by rw [hW1]; simp
        have f2 : W1.cell? ⟨wr.heap.size, 2, none⟩ = some (.int .i64 y.slot) := by rw [hW1]; simp
        have f3 : W1.cell? ⟨wr.heap.size, 3, none⟩ = some (.int .i64 y.fine) := by rw [hW1]; simp
        have f4 : W1.cell? ⟨wr.heap.size, 4, none⟩ = some (.int .i64 y.dflt) := by rw [hW1]; simp
        have f5 : W1.cell? ⟨wr.heap.size, 5, none⟩ = some (.bool y.snap) := by rw [hW1]; simp
        have f6 : W1.cell? ⟨wr.heap.size, 6, none⟩ = some (.slice orr y.rs.length cr) := by rw [hW1]; simp
        have f7 : W1.cell? ⟨w.heap.size, 1, none⟩ = some (.int .i64 x.size) := b1.cell d1
        have f8 : W1.cell? ⟨w.heap.size, 2, none⟩ = some (.slice (some ⟨b, off, none⟩) x.ps.length cap) := b1.cell d2
        rw [← hW1]
        clear hW1 c0 c1 c2 c3 c4 c5 c6 d0 d1 d2
        have bl1 : Bl W0 W1 := HB.out.trans b1
        have k0 := f0
        have k1' := f1
        have k2 := f2
        have k3 := f3
        have k4 := f4
        have k5 := f5
        have k6 := f6
        have k7 := f7
        have k8 := f8
        go_region_held3 (fun w' => w'.cell? ⟨wr.heap.size, 0, none⟩ = some (.string y.name) ∧ w'.cell? ⟨wr.heap.size, 1, none⟩ = some (.int .i64 y.grp) ∧ w'.cell? ⟨wr.heap.size, 2, none⟩ = some (.int .i64 y.slot) ∧ w'.cell? ⟨wr.heap.size, 3, none⟩ = some (.int .i64 y.fine) ∧ w'.cell? ⟨wr.heap.size, 4, none⟩ = some (.int .i64 y.dflt) ∧ w'.cell? ⟨wr.heap.size, 5, none⟩ = some (.bool y.snap) ∧ w'.cell? ⟨wr.heap.size, 6, none⟩ = some (.slice orr y.rs.length cr) ∧ w'.cell? ⟨w.heap.size, 1, none⟩ = some (.int .i64 x.size) ∧ w'.cell? ⟨w.heap.size, 2, none⟩ = some (.slice (some ⟨b, off, none⟩) x.ps.length cap))
          (refine ⟨Bl.cell (w := W1) ?_ k0, Bl.cell (w := W1) ?_ k1', Bl.cell (w := W1) ?_ k2, Bl.cell (w := W1) ?_ k3, Bl.cell (w := W1) ?_ k4, Bl.cell (w := W1) ?_ k5, Bl.cell (w := W1) ?_ k6, Bl.cell (w := W1) ?_ k7, Bl.cell (w := W1) ?_ k8⟩ <;> (((repeat (first | with_reducible exact Bl.refl _ | with_reducible assumption | with_reducible refine Bl.drew ?_ | with_reducible refine Bl.alloc ?_ _ | with_reducible refine Bl.trans ?_ (by assumption))); done); done))
          (first | (go_at_call 41; (with_reducible refine (HCk.out _ (b1.trans ?_)).mono ?_); (focus ((repeat (first | with_reducible exact Bl.refl _ | with_reducible assumption | with_reducible refine Bl.drew ?_ | with_reducible refine Bl.alloc ?_ _ | with_reducible refine Bl.trans ?_ (by assumption))); done)); rintro e' w6 ⟨rfl, m6⟩))
        all_goals
          go_wp2
          go_ret
          exact ⟨ret_int er.out.symm, bW0.trans (bl1.trans (by ((repeat (first | with_reducible exact Bl.refl _ | with_reducible assumption | with_reducible refine Bl.drew ?_ | with_reducible refine Bl.alloc ?_ _ | with_reducible refine Bl.trans ?_ (by assumption))); done)))⟩
    · obtain rfl : k = x.ps.length := by omega
      have er : Hid (ckProf x = 0) := by show _ = _; rw [HK.out, List.drop_length]; rfl
      clear HK HG
      go_wp2
      go_ret
      exact ⟨ret_int er.out.symm, bW0.trans HB.out⟩
end Go.Proofs.YtcidldomnifdeaaDoor

/- CheckLibrary of the reference. -/
namespace Go.Proofs.YtcidldomnifdeaaDoor
open Go.RowKit Go.Sort

set_option maxRecDepth 100000 in
set_option maxHeartbeats 6400000 in
theorem checkLibrary_ref (v : Value) (L : List Prof) (w : World) (hv : ProfVal w v L) (hok : ∀ f ∈ L, ProfOk f) :
    Calls Tryd.prog 9 #[v] w fun e w' => e = .returned (.int .i64 (ckLib L)) ∧ Bl w w' := by
  have HV := Lib.hid hv
  obtain ⟨o, cap, rfl, hcap, _⟩ := hv
  by_cases h60 : 60 < L.length
  · have e : Hid (ckLib L = 2) := by show _ = _; unfold ckLib; rw [if_pos h60]
    have t1 : (60 : Int) < (L.length : Int) := by omega
    clear h60
    go_enter Tryd.func9, Tryd.ntmps9
    go_wp2
    go_returns
    exact ⟨ret_int e.out.symm, Bl.refl w⟩
  · have e : Hid (ckLib L = ckProfs [] L) := by show _ = _; unfold ckLib; rw [if_neg h60]
    have t1 : (L.length : Int) ≤ 60 := by omega
    have HO := Lib.hid hok
    clear h60 hok
    go_enter Tryd.func9, Tryd.ntmps9
    go_wp2
    go_loopw [13] (fun vi wr => ∃ k : Nat, k ≤ L.length ∧ vi = .int .i64 k ∧ Hid (ckLib L = ckProfs ((L.take k).map nmF) (L.drop k)) ∧ Hid (Bl w wr)) (fun vi _ => L.length - (intOf vi).toNat)
    case atStart => exact ⟨0, Nat.zero_le _, rfl, e, Bl.refl w⟩
    case round =>
      obtain ⟨k, hk, rfl, HK, HB⟩ := hrel
      rename World => wr
      by_cases hlt : k < L.length
      · obtain ⟨o', c', ev, _, hp'⟩ := HV.out.bl HB.out
        obtain ⟨rfl, rfl⟩ : o = o' ∧ cap = c' := by cases ev; exact ⟨rfl, rfl⟩
        clear ev
        obtain ⟨b, off, rfl, hL⟩ := hp' (by omega)
        clear hp'
        have HLL := Lib.hid hL
        have hstep := Lib.hid (ckProfs_at L k hlt ((L.take k).map nmF))
        have htk : Hid ((L.take (k + 1)).map nmF = (L.take k).map nmF ++ [nmF L[k]]) := by
          show _ = _; rw [List.take_succ_eq_append_getElem hlt, List.map_append]; rfl
        obtain ⟨vp, hcel, hpv⟩ := hL k hlt
        have hok := HO.out L[k] (List.getElem_mem hlt)
        obtain ⟨x, hx⟩ : ∃ x, x = L[k] := ⟨_, rfl⟩
        rw [← hx] at hstep htk hcel hpv hok
        clear hx hL
        obtain ⟨op, cp, evp⟩ : ∃ o c, vp = .slice o x.ps.length c := by obtain ⟨o, c, e, _⟩ := hpv; exact ⟨o, c, e⟩
        subst evp
        obtain ⟨c0, c1, c2⟩ := hcel
        have k1 : (k : Int) < (L.length : Int) := by omega
        have kc : (k : Int) ≤ (cap : Int) := by have := hcap.1; omega
        obtain ⟨W, hW⟩ : ∃ W, W = wr.alloc (.cells #[.string x.name, .int .i64 x.size, .slice op x.ps.length cp] 29) := ⟨_, rfl⟩
        have bwr : Bl wr W := by rw [hW]; exact (Bl.refl wr).alloc _
        have bW := HB.out.trans bwr
        have HC := Lib.hid (show ∀ w', Bl W w' → CelF w' wr.heap.size 0 x (.slice op x.ps.length cp) from fun w' g => CelF.bl (by rw [hW]; exact CelF.new _ _ _ _) g)
        have HCk := Lib.hid (checkProfile_ref x (.slice op x.ps.length cp) W (hpv.bl bwr) hok)
        clear hok hpv
        by_cases hz : ckProf x = 0
        · rw [hz] at HCk
          have h6 : Hid (((L.take k).map nmF).contains (nmF x) = true → ckLib L = 6) := fun h6 => by
            have : ckPr ((L.take k).map nmF) x = 6 := by unfold ckPr; rw [if_pos hz, if_pos h6]
            rw [HK.out, hstep.out, this]; rfl
          have hn : Hid (¬ ((L.take k).map nmF).contains (nmF x) = true → ckLib L = ckProfs ((L.take (k + 1)).map nmF) (L.drop (k + 1))) := fun h6 => by
            have : ckPr ((L.take k).map nmF) x = 0 := by unfold ckPr; rw [if_pos hz, if_neg h6]
            rw [HK.out, hstep.out, if_pos this, htk.out]
          clear hstep HK htk hz
          go_wp2_with (first
            | (go_at_call 13; (try rw [← hW]); refine HCk.out.mono ?_; rintro e w2 ⟨rfl, m2⟩))
          have M2 := Lib.hid m2
          clear m2
          go_loopw [27] (fun vj wi => ∃ j : Nat, j ≤ k ∧ vj = .int .i64 j ∧ Hid (∀ f ∈ L.take j, nmF f ≠ nmF x) ∧ Hid (Bl w2 wi)) (fun vj _ => k - (intOf vj).toNat)
          case atStart => exact ⟨0, Nat.zero_le _, rfl, (fun e he => by simp at he), Bl.refl _⟩
          case round =>
            obtain ⟨j, hj, rfl, HJ, HBi⟩ := hrel
            rename World => wi
            have bi : Bl W wi := M2.out.trans HBi.out
            by_cases hjk : j < k
            · have hjl : j < L.length := by omega
              obtain ⟨q0, q1, q2⟩ := HC.out _ bi
              have zr : wr.heap.size < wi.heap.size := World.block_lt_of_cell? _ _ q0
              obtain ⟨vy, ⟨g0, g1, g2⟩, hvy⟩ := (HLL.out.bl (bwr.trans bi)) j hjl
              have htj := Lib.hid (fun h2 => take_all (P := fun f => nmF f ≠ nmF x) hjl HJ.out h2)
              have hmj : Hid (L[j] ∈ L.take k) := by
                show _ ∈ _
                have h1 : j < (L.take k).length := by rw [List.length_take]; omega
                have h2 : (L.take k)[j] = L[j] := by simp
                rw [← h2]; exact List.getElem_mem h1
              obtain ⟨y, hy⟩ : ∃ y, y = L[j] := ⟨_, rfl⟩
              rw [← hy] at g0 g1 htj hmj hvy
              clear hy
              obtain ⟨oy, cy, evy⟩ : ∃ o c, vy = .slice o y.ps.length c := by obtain ⟨o, c, e, _⟩ := hvy; exact ⟨o, c, e⟩
              subst evy
              clear hvy
              have j2 : (j : Int) < (k : Int) := by omega
              by_cases hq : nmF y = nmF x
              · have er := Lib.hid (h6.out (List.elem_eq_true_of_mem (List.mem_map.2 ⟨y, hmj.out, hq⟩)))
                have hs := str_same (a := y.name) (b := x.name) hq
                clear htj hq hmj
                go_wp2
                go_ret
                exact ⟨ret_int er.out.symm, (bW.trans bi).alloc _⟩
              · have hn' := Lib.hid (htj.out hq)
                have hs := str_other (a := y.name) (b := x.name) hq
                clear htj hq hmj
                go_wp2
                go_roundw
                case rel => exact ⟨j + 1, by omega, by go_num, hn'.out, HBi.out.alloc _⟩
                case measure => simp [intOf]; omega
            · obtain rfl : j = k := by omega
              have hno : ¬ ((L.take j).map nmF).contains (nmF x) = true := fun hc => by
                obtain ⟨e, he, hl⟩ := List.mem_map.1 (List.mem_of_elem_eq_true hc)
                exact HJ.out e he hl
              have hn2 := Lib.hid (hn.out hno)
              have bfin := Lib.hid (bW.trans bi)
              clear HJ h6 hn hno
              go_wp2
              go_roundw
              case rel => exact ⟨j + 1, by omega, by go_num, hn2, bfin.out⟩
              case measure => simp [intOf]; omega
        · have er : Hid (ckLib L = ckProf x) := by
            have : ckPr ((L.take k).map nmF) x = ckProf x := by unfold ckPr; rw [if_neg hz]
            show _ = _; rw [HK.out, hstep.out, this, if_neg hz]
          have hzb : (ckProf x != 0) = true := by simpa using hz
          clear hstep HK hz htk
          generalize ckProf x = X at *
          go_wp2_with (first
            | (go_at_call 13; (try rw [← hW]); refine HCk.out.mono ?_; rintro e w2 ⟨rfl, m2⟩))
          go_ret
          exact ⟨ret_int er.out.symm, bW.trans m2⟩
      · obtain rfl : k = L.length := by omega
        have er : Hid (ckLib L = 0) := by show _ = _; rw [HK.out, List.drop_length]; rfl
        clear HK
        go_wp2
        go_ret
        exact ⟨ret_int er.out.symm, HB.out⟩
end Go.Proofs.YtcidldomnifdeaaDoor

/- Show of the reference. -/
namespace Go.Proofs.YtcidldomnifdeaaDoor
open Go.RowKit Go.Lib Go.Sort

theorem pct_rnd (h : Int) : (h * 65535 + 5000) / 10000 = rnd h 10000 65535 := by
  unfold rnd
  rw [show 2 * 65535 * h + 10000 = 2 * (h * 65535 + 5000) by omega, show (2 * 10000 : Int) = 2 * 10000 from rfl, Int.mul_ediv_mul_of_pos _ _ (by decide)]
set_option maxHeartbeats 400000 in
theorem percentR (h : Int) (w : World) (h0 : 0 ≤ h) (h1 : h ≤ 1000000) :
    Calls Tryd.prog 112 #[.int .i64 h] w fun e w' => e = .returned (.int .i64 (rnd h 10000 65535)) ∧ w = w' := by
  have HE := Lib.hid (pct_rnd h)
  go_enter Tryd.func112, Tryd.ntmps112
  go_wp2
  go_returns
  refine ⟨?_, rfl⟩
  rw [← HE.out]; rfl
theorem pct_back {k n : Int} (h : rnd (100 * k) 10000 65535 = n) : rnd n 65535 100 = k := by
  unfold rnd at h ⊢
  omega
theorem lv_pct {n k : Int} (n0 : n ≠ 0) (n1 : n ≠ 65535) (h : rnd (100 * k) 10000 65535 = n) : lvShow n = decDigits k.toNat ++ [37] := by
  have hb := pct_back h
  unfold lvShow
  rw [if_neg n0, if_neg n1, hb, if_pos (by rw [Int.mul_comm]; exact h)]
theorem lv_num {n : Int} (n0 : n ≠ 0) (n1 : n ≠ 65535) (a0 : 0 ≤ n) (a1 : n ≤ 65535) (h : ∀ k : Nat, k < 101 → rnd (100 * (k : Int)) 10000 65535 ≠ n) : lvShow n = 35 :: decDigits n.toNat := by
  have p0 : 0 ≤ rnd n 65535 100 := rnd_nonneg (by decide) a0 (by decide)
  have p1 : rnd n 65535 100 ≤ 100 := rnd_le (by decide) a1 (by decide)
  have := h (rnd n 65535 100).toNat (by omega)
  rw [Int.toNat_of_nonneg p0] at this
  unfold lvShow
  rw [if_neg n0, if_neg n1, if_neg (by rw [Int.mul_comm]; exact this)]
set_option maxHeartbeats 1600000 in
theorem showR (n : Int) (w : World) (ht : TabIs Tryd.prog w "internal/strconv.uint64pow10" .u64 pow10Tab) :
    Calls Tryd.prog 90 #[.int .i64 n] w fun e w' => e = lsR n ∧ Gr w w' := by
  have HI := fun w => isLevelI n w
  have HT := Lib.hid ht
  clear ht
  cases hm : isLev n with
  | false =>
    rw [hm] at HI
    have HR := Lib.hid (show lsR n = .returned (.tuple #[.string (bs []), .int .i64 1]) by unfold lsR; rw [hm]; rfl)
    clear hm
    go_enter Tryd.func90, Tryd.ntmps90
    go_wp2_with (refine (HI _).mono ?_; rintro e w2 ⟨rfl, rfl⟩)
    go_returns
    exact ⟨HR.out.symm, Gr.refl _⟩
  | true =>
    rw [hm] at HI
    obtain ⟨h0, h1⟩ := isLev_iff.1 hm
    have hR : lsR n = .returned (.tuple #[.string (bs (lvShow n)), .int .i64 0]) := by unfold lsR; rw [hm]; rfl
    by_cases n0 : n = 0
    · have HR := Lib.hid (show lsR n = .returned (.tuple #[.string (bs [111, 117, 116]), .int .i64 0]) by rw [hR]; unfold lvShow; rw [if_pos n0])
      have n0' : (n == 0) = true := by rw [n0]; rfl
      clear hm hR n0
      go_enter Tryd.func90, Tryd.ntmps90
      go_wp2_with (refine (HI _).mono ?_; rintro e w2 ⟨rfl, rfl⟩)
      go_returns
      exact ⟨HR.out.symm, Gr.refl _⟩
    have n0' : (n == 0) = false := beq_eq_false_iff_ne.2 n0
    by_cases n1 : n = 65535
    · have HR := Lib.hid (show lsR n = .returned (.tuple #[.string (bs [102, 117, 108, 108]), .int .i64 0]) by rw [hR]; unfold lvShow; rw [if_neg n0, if_pos n1])
      have n1' : (n == 65535) = true := by rw [n1]; rfl
      clear hm hR n0 n1
      go_enter Tryd.func90, Tryd.ntmps90
      go_wp2_with (refine (HI _).mono ?_; rintro e w2 ⟨rfl, rfl⟩)
      go_returns
      exact ⟨HR.out.symm, Gr.refl _⟩
    have n1' : (n == 65535) = false := beq_eq_false_iff_ne.2 n1
    have HP := Lib.hid (fun (k : Nat) (hk : k < 101) w => percentR (100 * (k : Int)) w (by omega) (by omega))
    have HY := Lib.hid (fun (k : Nat) (hk : k < 101) (h : rnd (100 * (k : Int)) 10000 65535 = n) => show lsR n = .returned (.tuple #[.string (bs (decDigits k) ++ bs [37]), .int .i64 0]) by
      rw [hR, lv_pct n0 n1 h, bs_app]; rfl)
    have HZ := Lib.hid (fun (h : ∀ k : Nat, k < 101 → rnd (100 * (k : Int)) 10000 65535 ≠ n) => show lsR n = .returned (.tuple #[.string (bs [35] ++ bs (decDigits n.toNat)), .int .i64 0]) by
      rw [hR, lv_num n0 n1 h0 h1 h, bs_app]; rfl)
    have HJ := Lib.hid (fun (k : Nat) (hk : k < 101) => show Calls Tryd.prog 27 #[.int .i64 (k : Int)] w fun e w' => e = .returned (.string (bs (decDigits k))) ∧ Gr w w' from
      itoa_any (k : Int) w (by omega) (by omega) HT.out)
    have HL := Lib.hid (fun (k : Nat) (hk : k < 101) => show (bs (decDigits k)).size ≤ 10 by rw [bs_size]; exact dd_len _ _ (by decide) (by omega))
    have HN := Lib.hid (itoa_any n w h0 (by omega) HT.out)
    have hl : (bs (decDigits n.toNat)).size ≤ 10 := by rw [bs_size]; exact dd_len _ _ (by decide) (by omega)
    clear hm hR n0 n1
    go_enter Tryd.func90, Tryd.ntmps90
    go_wp2_with (refine (HI _).mono ?_; rintro e w2 ⟨rfl, rfl⟩)
    go_loop [15] (fun i => ∃ k : Nat, k ≤ 101 ∧ i = .int .i64 k ∧ ∀ j : Nat, j < k → rnd (100 * (j : Int)) 10000 65535 ≠ n) (fun i => 101 - (intOf i).toNat)
    case atStart => exact ⟨0, Nat.zero_le _, rfl, fun j hj => absurd hj (Nat.not_lt_zero _)⟩
    case round =>
      obtain ⟨k, hk, rfl, hno⟩ := hrel
      have HK := Lib.hid hno
      clear hno
      by_cases hlt : k < 101
      · by_cases hc : rnd (100 * (k : Int)) 10000 65535 = n
        · have hc' : (rnd (100 * (k : Int)) 10000 65535 == n) = true := by simpa using hc
          have HE := Lib.hid (HY.out k hlt hc)
          have hl2 := HL.out k hlt
          clear hc
          go_wp2_with (first | (go_at_call 112; refine (HP.out k hlt _).mono ?_; rintro e w1 ⟨rfl, rfl⟩) | (go_at_call 27; refine (HJ.out k hlt).mono ?_; rintro e w3 ⟨rfl, g⟩))
          go_returns
          exact ⟨HE.out.symm, g⟩
        · have hc' : (rnd (100 * (k : Int)) 10000 65535 == n) = false := by simpa using hc
          have HC := Lib.hid hc
          clear hc
          go_wp2_with (go_at_call 112; refine (HP.out k hlt _).mono ?_; rintro e w1 ⟨rfl, rfl⟩)
          go_round
          case rel =>
            refine ⟨k + 1, by omega, by go_num, fun j hj => ?_⟩
            by_cases e : j = k
            · rw [e]; exact HC.out
            · exact HK.out j (by omega)
          case measure => simp [intOf]; omega
      · obtain rfl : k = 101 := by omega
        have HE := Lib.hid (HZ.out HK.out)
        go_wp2_with (refine HN.out.mono ?_; rintro e w3 ⟨rfl, g⟩)
        go_returns
        exact ⟨HE.out.symm, g⟩

/-! Read. -/
end Go.Proofs.YtcidldomnifdeaaDoor

/- The words of a parameter, as the reference writes them: groups, show, the first words. -/
namespace Go.Proofs.YtcidldomnifdeaaDoor
open Go.RowKit Go.Sort Go.Lib

set_option maxHeartbeats 1600000 in
theorem groupsR_any (w : World) :
    Calls Tryd.prog 62 #[] w fun e w' => ∃ (b c : Nat), e = .returned (.slice (some ⟨b, 0, none⟩) 5 c) ∧ Bl w w' ∧ ∀ g : Nat, g ≤ 4 → w'.cell? ⟨b, g, none⟩ = some (.string (bs (gW g))) := by
  go_enter Tryd.func62, Tryd.ntmps62
  go_wp2
  go_returns
  refine ⟨_, _, rfl, (by first | exact (Bl.refl w).alloc _ | exact ((Bl.refl w).alloc _).alloc _), fun g hg => ?_⟩
  have key : g = 0 ∨ g = 1 ∨ g = 2 ∨ g = 3 ∨ g = 4 := by omega
  rcases key with rfl | rfl | rfl | rfl | rfl <;> (simp; rfl)
set_option maxHeartbeats 800000 in
theorem showR_fx (n : Int) (w : World) (h0 : 0 ≤ n) (h1 : n ≤ 65535) (ht : PowAt w) :
    Calls Tryd.prog 63 #[.int .i64 n] w fun e w' => e = .returned (.string (bs (lvShow n))) ∧ Bl w w' := by
  have hl : isLev n = true := isLev_iff.2 ⟨h0, h1⟩
  have e1 : lsR n = .returned (.tuple #[.string (bs (lvShow n)), .int .i64 0]) := by unfold lsR; rw [if_pos hl, if_pos hl]
  have H := Lib.hid (showR n w ht)
  rw [e1] at H
  generalize bs (lvShow n) = S at *
  clear e1 hl ht
  go_enter Tryd.func63, Tryd.ntmps63
  go_wp2_with (go_at_call 90; refine H.out.mono ?_; rintro e w1 ⟨rfl, m1⟩)
  go_returns
  exact ⟨rfl, m1.bl⟩
end Go.Proofs.YtcidldomnifdeaaDoor

/- The words of a parameter, as the reference writes them. -/
namespace Go.Proofs.YtcidldomnifdeaaDoor
open Go.RowKit Go.Sort Go.Lib

theorem wpAnyH_switch {P : Program} {md : Region.Mode} {ops : Array Oper} {Q : Exit → Act → World → Prop} {S S2 : World → Prop} (h : ∀ w, S2 w → S w) : ∀ (fuel : Nat) (listed : Array Bool) (a : Act) (w : World), wpAnyH P md ops Q S2 fuel listed a w → wpAnyH P md ops Q S fuel listed a w
  | 0, _, _, _, H => H
  | fuel + 1, _, _, _, H => ⟨H.1, fun i hi => wpOp_mono (fun _ w' h' => ⟨h w' h'.1, wpAnyH_switch h fuel _ _ _ h'.2⟩) (H.2 i hi)⟩

set_option maxRecDepth 100000 in
set_option maxHeartbeats 12800000 in
theorem paramTextR_any (x : Par) (vr : Value) (size : Int) (w : World) (hr : RngVal w vr x.rs) (hg : ParGood size x) (h512 : size ≤ 512) (hpw : PowAt w) :
    Calls Tryd.prog 32 #[.agg #[.string x.name, .int .i64 x.grp, .int .i64 x.slot, .int .i64 x.fine, .int .i64 x.dflt, .bool x.snap, vr]] w fun e w' => e = .returned (.string (bs (fxPar x))) ∧ Bl w w' := by
  have hw90 := fxWords_len hg h512
  obtain ⟨hnm, ⟨g1, g2⟩, ⟨s1, s2⟩, ⟨f1, f2⟩, ⟨l1, l2⟩, hrs30, hrg⟩ := hg
  have HRv := Lib.hid hr
  have HGR := Lib.hid hrg
  obtain ⟨o, c, rfl, _, _⟩ := hr
  obtain ⟨W, hW⟩ : ∃ W, W = w.alloc (.cells #[.string x.name, .int .i64 x.grp, .int .i64 x.slot, .int .i64 x.fine, .int .i64 x.dflt, .bool x.snap, .slice o x.rs.length c] 46) := ⟨_, rfl⟩
  have bW : Bl w W := by rw [hW]; exact (Bl.refl w).alloc _
  have HC := Lib.hid (show ∀ w', Bl W w' → CelP w' w.heap.size 0 x (.slice o x.rs.length c) from fun w' g => CelP.bl (by rw [hW]; exact CelP.new _ _ _ _) g)
  obtain ⟨g, hgg⟩ : ∃ g : Nat, x.grp = (g : Int) := ⟨x.grp.toNat, by omega⟩
  have hgi : (g : Int) < 5 := by omega
  have hg4 : g ≤ 4 := by omega
  have HPW := Lib.hid (fun w' (m : Bl w w') => hpw.bl m)
  have HI1 := Lib.hid (fun w' (m : Bl W w') => itoa_bl x.slot w' (by omega) (by omega) (hpw.bl (bW.trans m)))
  have HI2 := Lib.hid (fun w' (m : Bl W w') => itoa_bl x.fine w' (by omega) (by omega) (hpw.bl (bW.trans m)))
  have HSh := Lib.hid (fun w' (m : Bl W w') => showR_fx x.dflt w' l1 l2 (hpw.bl (bW.trans m)))
  have HGr := Lib.hid (fun w' => groupsR_any w')
  have HX : Hid (∀ F D P : List UInt8, F = fxFine x.fine → D = fxDflt x.dflt → P = fxSnap x.snap → [32, 32] ++ gW g ++ [32] ++ nmP x ++ fxAt ++ decDigits x.slot.toNat ++ F ++ D ++ P ++ [10] = [32, 32] ++ fxWords x ++ [10]) := by
    show ∀ _, _; rintro F D P rfl rfl rfl; unfold fxWords; rw [show x.grp.toNat = g by omega]; simp only [List.append_assoc]
  have hn20 : x.name.size ≤ 20 := by rw [← lst_len]; exact isNm_len hnm
  have hA9 : (bs (gW g)).size ≤ 9 := by rw [bs_size]; exact gW_len g
  have hD5 : (bs (decDigits x.slot.toNat)).size ≤ 5 := by rw [bs_size]; exact dd5 (by omega) (by omega)
  have hF5 : (bs (decDigits x.fine.toNat)).size ≤ 5 := by rw [bs_size]; exact dd5 (by omega) (by omega)
  have hL10 : (bs (lvShow x.dflt)).size ≤ 10 := by rw [bs_size]; exact lvShow_l10 l1 l2
  obtain ⟨Ga, hGa⟩ : ∃ G, G = bs (gW g) := ⟨_, rfl⟩
  obtain ⟨Da, hDa⟩ : ∃ G, G = bs (decDigits x.slot.toNat) := ⟨_, rfl⟩
  obtain ⟨Fa, hFa⟩ : ∃ G, G = bs (decDigits x.fine.toNat) := ⟨_, rfl⟩
  obtain ⟨La, hLa⟩ : ∃ G, G = bs (lvShow x.dflt) := ⟨_, rfl⟩
  rw [← hGa] at hA9
  rw [← hDa] at hD5 HI1
  rw [← hFa] at hF5 HI2
  rw [← hLa] at hL10 HSh
  have HGa := Lib.hid hGa
  have HDa := Lib.hid hDa
  have HFa := Lib.hid hFa
  have HLa := Lib.hid hLa
  clear hGa hDa hFa hLa
  obtain ⟨R0, q0⟩ := sum_ok (a := ⟨#[32, 32]⟩) (b := Ga) (m := 2) (Nat.le_refl 2) hA9 (by decide)
  obtain ⟨R1, q1⟩ := sum_ok (b := ⟨#[32]⟩) (n := 1) q0 (Nat.le_refl 1) (by decide)
  obtain ⟨R2, q2⟩ := sum_ok (b := x.name) q1 hn20 (by decide)
  obtain ⟨R3, q3⟩ := sum_ok (b := ⟨#[32, 97, 116, 32]⟩) (n := 4) q2 (Nat.le_refl 4) (by decide)
  obtain ⟨R4, q4⟩ := sum_ok (b := Da) q3 hD5 (by decide)
  obtain ⟨R5, q5⟩ := sum_ok (a := ⟨#[32, 102, 105, 110, 101, 32]⟩) (m := 6) (b := Fa) (Nat.le_refl 6) hF5 (by decide)
  obtain ⟨R6, q6⟩ := sum_ok (a := ⟨#[32, 100, 101, 102, 97, 117, 108, 116, 32]⟩) (m := 9) (b := La) (Nat.le_refl 9) hL10 (by decide)
  have hT : Hid (⟨#[32, 32]⟩ ++ Ga ++ ⟨#[32]⟩ ++ x.name ++ ⟨#[32, 97, 116, 32]⟩ ++ Da = bs ([32, 32] ++ gW g ++ [32] ++ nmP x ++ fxAt ++ decDigits x.slot.toNat)) := by
    show _ = _
    refine bs_eq ?_
    rw [app_list, app_list, app_list, app_list, app_list, HGa.out, HDa.out, bs_list, bs_list]; rfl
  obtain ⟨k0, k1, k2, k3, k4, k5, k6⟩ := HC.out W (Bl.refl _)
  simp only [Nat.zero_add] at k1 k2 k3 k4 k5 k6
  rw [hgg] at k1
  rw [hgg] at hW ⊢
  clear hpw hnm g1 g2 hrg k3 k4 k5 k6
  go_enter Tryd.func32, Tryd.ntmps32
  go_wp2_with fail
  rw [← hW]
  have c0 := k0
  have c1 := k1
  have c2 := k2
  clear hW
  refine wp_region_held_drew (S := (fun w' => w'.cell? ⟨w.heap.size, 0, none⟩ = some (.string x.name) ∧ w'.cell? ⟨w.heap.size, 1, none⟩ = some (.int .i64 (g : Int)) ∧ w'.cell? ⟨w.heap.size, 2, none⟩ = some (.int .i64 x.slot))) (by kernel_rfl) ⟨c0, c1, c2⟩ (fun hHeld => ?_)
  refine wpAnyH_take (i := 1) (v := ?_) rfl (by kernel_rfl) (by kernel_rfl) (by kernel_rfl) (fun _ _ _ h => h) (Or.inl ⟨by rfl, ?_⟩) (by assumption) ?_
  rotate_left
  · intro w' hSw; obtain ⟨q0, q1, q2⟩ := hSw; go_simp; (try with_reducible rfl)
  try simp only [Act.put, List.setIfInBounds_toArray, List.set_cons_zero, List.set_cons_succ]
  refine wpAnyH_take (i := 2) (v := ?_) rfl (by kernel_rfl) (by kernel_rfl) (by kernel_rfl) (fun _ _ _ h => h) (Or.inl ⟨by rfl, ?_⟩) (by assumption) ?_
  rotate_left
  · intro w' hSw; obtain ⟨q0, q1, q2⟩ := hSw; go_simp; (try with_reducible rfl)
  try simp only [Act.put, List.setIfInBounds_toArray, List.set_cons_zero, List.set_cons_succ]
  refine wpAnyH_take (i := 7) (v := ?_) rfl (by kernel_rfl) (by kernel_rfl) (by kernel_rfl) (fun _ _ _ h => h) (Or.inl ⟨by rfl, ?_⟩) (by assumption) ?_
  rotate_left
  · intro w' hSw; obtain ⟨q0, q1, q2⟩ := hSw; go_simp; (try with_reducible rfl)
  try simp only [Act.put, List.setIfInBounds_toArray, List.set_cons_zero, List.set_cons_succ]
  refine wpAnyH_take (i := 8) (v := ?_) rfl (by kernel_rfl) (by kernel_rfl) (by kernel_rfl) (fun _ _ _ h => h) (Or.inl ⟨by rfl, ?_⟩) (by assumption) ?_
  rotate_left
  · intro w' hSw; obtain ⟨q0, q1, q2⟩ := hSw; go_simp; (try with_reducible rfl)
  try simp only [Act.put, List.setIfInBounds_toArray, List.set_cons_zero, List.set_cons_succ]
  refine wpAnyH_take (i := 11) (v := ?_) rfl (by kernel_rfl) (by kernel_rfl) (by kernel_rfl) (fun _ _ _ h => h) (Or.inl ⟨by rfl, ?_⟩) (by assumption) ?_
  rotate_left
  · intro w' hSw; obtain ⟨q0, q1, q2⟩ := hSw; go_simp; (try with_reducible rfl)
  try simp only [Act.put, List.setIfInBounds_toArray, List.set_cons_zero, List.set_cons_succ]
  refine wpAnyH_take (i := 12) (v := ?_) rfl (by kernel_rfl) (by kernel_rfl) (by kernel_rfl) (fun _ _ _ h => h) (Or.inl ⟨by rfl, ?_⟩) (by assumption) ?_
  rotate_left
  · intro w' hSw; obtain ⟨q0, q1, q2⟩ := hSw; go_simp; (try with_reducible rfl)
  try simp only [Act.put, List.setIfInBounds_toArray, List.set_cons_zero, List.set_cons_succ]
  refine wpAnyH_ready (rs := [0]) (by kernel_rfl) (by simp) ?_
  refine AllReadyH.cons rfl (fun K hK => ?_) AllReadyH.nil
  go_simp
  refine (HGr.out _).mono ?_
  rintro e' w5 ⟨b5, c5, rfl, m5, hc5⟩
  have hcell : w5.cell? ⟨b5, g, none⟩ = some (.string Ga) := by rw [HGa.out]; exact hc5 g hg4
  have B5 : Bl W w5 := by ((repeat (first | with_reducible exact Bl.refl _ | with_reducible assumption | with_reducible refine Bl.drew ?_ | with_reducible refine Bl.alloc ?_ _ | with_reducible refine Bl.trans ?_ (by assumption))); done)
  refine hK.out _ _ ⟨B5.cell c0, B5.cell c1, B5.cell c2⟩ (fun hHeld2 => ?_)
  clear hK K hc5 hHeld
  try simp only [Act.put, List.setIfInBounds_toArray, List.set_cons_zero, List.set_cons_succ]
  refine wpAnyH_switch (S2 := (fun w' => w'.cell? ⟨b5, g, none⟩ = some (.string Ga) ∧ (w'.cell? ⟨w.heap.size, 0, none⟩ = some (.string x.name) ∧ w'.cell? ⟨w.heap.size, 1, none⟩ = some (.int .i64 (g : Int)) ∧ w'.cell? ⟨w.heap.size, 2, none⟩ = some (.int .i64 x.slot)))) (fun w h => h.2) _ _ _ _ ?_
  have hHeld3 : (fun w' => w'.cell? ⟨b5, g, none⟩ = some (.string Ga) ∧ (w'.cell? ⟨w.heap.size, 0, none⟩ = some (.string x.name) ∧ w'.cell? ⟨w.heap.size, 1, none⟩ = some (.int .i64 (g : Int)) ∧ w'.cell? ⟨w.heap.size, 2, none⟩ = some (.int .i64 x.slot))) w5 := ⟨hcell, hHeld2⟩
  refine wpAnyH_take (i := 3) (v := ?_) rfl (by kernel_rfl) (by kernel_rfl) (by kernel_rfl) (fun _ _ _ h => h) (Or.inl ⟨by rfl, ?_⟩) (by assumption) ?_
  rotate_left
  · intro w' hSw; obtain ⟨qc, q0, q1, q2⟩ := hSw; go_simp; (try with_reducible rfl)
  try simp only [Act.put, List.setIfInBounds_toArray, List.set_cons_zero, List.set_cons_succ]
  refine wpAnyH_take (i := 4) (v := ?_) rfl (by kernel_rfl) (by kernel_rfl) (by kernel_rfl) (fun _ _ _ h => h) (Or.inl ⟨by rfl, ?_⟩) (by assumption) ?_
  rotate_left
  · intro w' hSw; obtain ⟨qc, q0, q1, q2⟩ := hSw; go_simp; (try with_reducible rfl)
  try simp only [Act.put, List.setIfInBounds_toArray, List.set_cons_zero, List.set_cons_succ]
  refine wpAnyH_take (i := 5) (v := ?_) rfl (by kernel_rfl) (by kernel_rfl) (by kernel_rfl) (fun _ _ _ h => h) (Or.inl ⟨by rfl, ?_⟩) (by assumption) ?_
  rotate_left
  · intro w' hSw; obtain ⟨qc, q0, q1, q2⟩ := hSw; go_simp; (try with_reducible rfl)
  try simp only [Act.put, List.setIfInBounds_toArray, List.set_cons_zero, List.set_cons_succ]
  refine wpAnyH_take (i := 6) (v := ?_) rfl (by kernel_rfl) (by kernel_rfl) (by kernel_rfl) (fun _ _ _ h => h) (Or.inl ⟨by rfl, ?_⟩) (by assumption) ?_
  rotate_left
  · intro w' hSw; obtain ⟨qc, q0, q1, q2⟩ := hSw; go_simp; (try with_reducible rfl)
  try simp only [Act.put, List.setIfInBounds_toArray, List.set_cons_zero, List.set_cons_succ]
  refine wpAnyH_take (i := 9) (v := ?_) rfl (by kernel_rfl) (by kernel_rfl) (by kernel_rfl) (fun _ _ _ h => h) (Or.inl ⟨by rfl, ?_⟩) (by assumption) ?_
  rotate_left
  · intro w' hSw; obtain ⟨qc, q0, q1, q2⟩ := hSw; go_simp; (try with_reducible rfl)
  try simp only [Act.put, List.setIfInBounds_toArray, List.set_cons_zero, List.set_cons_succ]
  refine wpAnyH_take (i := 10) (v := ?_) rfl (by kernel_rfl) (by kernel_rfl) (by kernel_rfl) (fun _ _ _ h => h) (Or.inl ⟨by rfl, ?_⟩) (by assumption) ?_
  rotate_left
  · intro w' hSw; obtain ⟨qc, q0, q1, q2⟩ := hSw; go_simp; (try with_reducible rfl)
  try simp only [Act.put, List.setIfInBounds_toArray, List.set_cons_zero, List.set_cons_succ]
  refine wpAnyH_ready (rs := [13]) (by kernel_rfl) (by simp) ?_
  refine AllReadyH.cons rfl (fun K hK => ?_) AllReadyH.nil
  go_simp
  refine (HI1.out _ B5).mono ?_
  rintro e' w6 ⟨rfl, m6⟩
  have b6 : Bl W w6 := B5.trans m6
  refine hK.out _ _ ⟨m6.cell hcell, b6.cell c0, b6.cell c1, b6.cell c2⟩ (fun hHeld4 => ?_)
  clear hK K hHeld2 hHeld3 hcell
  try simp only [Act.put, List.setIfInBounds_toArray, List.set_cons_zero, List.set_cons_succ]
  refine wpAnyH_take (i := 14) (v := ?_) rfl (by kernel_rfl) (by kernel_rfl) (by kernel_rfl) (fun _ _ _ h => h) (Or.inl ⟨by rfl, ?_⟩) (by assumption) ?_
  rotate_left
  · intro w' hSw; obtain ⟨qc, q0, q1, q2⟩ := hSw; go_simp; (try with_reducible rfl)
  try simp only [Act.put, List.setIfInBounds_toArray, List.set_cons_zero, List.set_cons_succ]
  refine wpAnyH_take (i := 15) (v := ?_) rfl (by kernel_rfl) (by kernel_rfl) (by kernel_rfl) (fun _ _ _ h => h) (Or.inl ⟨by rfl, ?_⟩) (by assumption) ?_
  rotate_left
  · intro w' hSw; obtain ⟨qc, q0, q1, q2⟩ := hSw; go_simp; (try with_reducible rfl)
  try simp only [Act.put, List.setIfInBounds_toArray, List.set_cons_zero, List.set_cons_succ]
  refine wpAnyH_done (by kernel_rfl) ?_ _
  have B6 := Lib.hid b6
  clear hHeld4 m5 m6 B5 k0 k1 k2 c0 c1 c2 R0 R1 R2 R3 R4 q0 q1 q2 q3
  obtain ⟨k0, k1, k2, k3, k4, k5, k6⟩ := HC.out _ b6
  simp only [Nat.zero_add] at k1 k2 k3 k4 k5 k6
  clear b6
  generalize (⟨#[32, 32]⟩ : ByteArray) ++ Ga ++ ⟨#[32]⟩ ++ x.name ++ ⟨#[32, 97, 116, 32]⟩ ++ Da = T at *
  clear HI1 HGr HGa HDa hA9 hD5 hn20
  by_cases hf : x.fine = 0
  · by_cases hd : x.dflt = 0
    · cases hs : x.snap with
      | false =>
        have hf' : (x.fine != 0) = false := by simpa using hf
        have hd' : (x.dflt != 0) = false := by simpa using hd
        obtain ⟨Rz, qz⟩ := sum_ok (a := T) (b := ⟨#[10]⟩) (n := 1) q4 (Nat.le_refl 1) (by decide)
        have hV : Hid (T ++ ⟨#[10]⟩ = bs ([32, 32] ++ fxWords x ++ [10])) := by
          show _ = _
          rw [← HX.out ([]) ([]) ([]) (by unfold fxFine; rw [if_pos hf]) (by unfold fxDflt; rw [if_pos hd]) (by rw [hs]; rfl)]
          refine bs_eq ?_
          simp only [app_list, hT.out, bs_list, List.append_assoc, List.append_nil]
          try rfl
        clear hT HX hf hd
        rw [hs] at k5
        go_wp2_with fail
        have BZ := Lib.hid (bW.trans B6.out)
        generalize T ++ ⟨#[10]⟩ = Z at *
        go_loopw [3, 48] (fun vs vi wr => ∃ k : Nat, k ≤ x.rs.length ∧ vi = .int .i64 k ∧ vs = .string (bs ([32, 32] ++ fxWords x ++ [10] ++ (x.rs.take k).flatMap fxRng)) ∧ Hid (Bl w wr)) (fun _ vi _ => x.rs.length - (intOf vi).toNat)
        case atStart => exact ⟨0, Nat.zero_le _, rfl, (by rw [hV.out]; simp), BZ.out⟩
        case round =>
          obtain ⟨k, hk, rfl, rfl, HB⟩ := hrel
          rename World => wr
          by_cases hlt : k < x.rs.length
          · obtain ⟨o', c', ev, _, hp'⟩ := HRv.out
            obtain ⟨rfl, rfl⟩ : o = o' ∧ c = c' := by cases ev; exact ⟨rfl, rfl⟩
            clear ev
            obtain ⟨br, offr, rfl, hLr⟩ := hp' (by omega)
            clear hp'
            obtain ⟨c0, c1, c2⟩ := (hLr k hlt).bl HB.out
            have hti := Lib.hid (flat_take fxRng x.rs k hlt)
            have hgr := HGR.out x.rs[k] (List.getElem_mem hlt)
            have hl5 : (bs ([32, 32] ++ fxWords x ++ [10] ++ (x.rs.take k).flatMap fxRng)).size ≤ 5000 := by
              have h1 := len_take fxRng 60 30 x.rs k (fun r hr => fxRng_len (HGR.out r hr)) hrs30
              have h2 := hw90
              rw [bs_size]; simp only [List.length_append, List.length_cons, List.length_nil]; omega
            obtain ⟨r, hr⟩ : ∃ r, r = x.rs[k] := ⟨_, rfl⟩
            rw [← hr] at hti c0 c1 c2 hgr
            clear hr hLr
            obtain ⟨⟨r0, r1, r2⟩, rn⟩ := hgr
            have i1 : (k : Int) < (x.rs.length : Int) := by omega
            have hn20 : r.name.size ≤ 20 := by rw [← lst_len]; exact isNm_len rn
            have hA10 : (bs (lvShow r.lo)).size ≤ 10 := by rw [bs_size]; exact lvShow_l10 r0 (by omega)
            have hC10 : (bs (lvShow r.hi)).size ≤ 10 := by rw [bs_size]; exact lvShow_l10 (by omega) r2
            have HS1 := Lib.hid (fun w' (m : Bl w w') => showR_fx r.lo w' r0 (by omega) (HPW.out w' m))
            have HS2 := Lib.hid (fun w' (m : Bl w w') => showR_fx r.hi w' (by omega) r2 (HPW.out w' m))
            obtain ⟨A, hA⟩ : ∃ D, D = bs (lvShow r.lo) := ⟨_, rfl⟩
            obtain ⟨C, hC⟩ : ∃ D, D = bs (lvShow r.hi) := ⟨_, rfl⟩
            rw [← hA] at hA10 HS1
            rw [← hC] at hC10 HS2
            obtain ⟨Q1, y1⟩ := sum_ok (a := ⟨#[32, 32, 32, 32]⟩) (m := 4) (b := A) (Nat.le_refl 4) hA10 (by decide)
            obtain ⟨Q2, y2⟩ := sum_ok (b := ⟨#[32]⟩) (n := 1) y1 (Nat.le_refl 1) (by decide)
            obtain ⟨Q3, y3⟩ := sum_ok (b := C) y2 hC10 (by decide)
            obtain ⟨Q4, y4⟩ := sum_ok (b := ⟨#[32]⟩) (n := 1) y3 (Nat.le_refl 1) (by decide)
            obtain ⟨Q5, y5⟩ := sum_ok (b := r.name) y4 hn20 (by decide)
            obtain ⟨Q6, y6⟩ := sum_ok (b := ⟨#[10]⟩) (n := 1) y5 (Nat.le_refl 1) (by decide)
            have hfin : Hid (bs ([32, 32] ++ fxWords x ++ [10] ++ (x.rs.take k).flatMap fxRng) ++ (⟨#[32, 32, 32, 32]⟩ ++ A ++ ⟨#[32]⟩ ++ C ++ ⟨#[32]⟩ ++ r.name ++ ⟨#[10]⟩) = bs ([32, 32] ++ fxWords x ++ [10] ++ (x.rs.take (k + 1)).flatMap fxRng)) := by
              have h1 : (⟨#[32, 32, 32, 32]⟩ ++ A ++ ⟨#[32]⟩ ++ C ++ ⟨#[32]⟩ ++ r.name ++ ⟨#[10]⟩ : ByteArray).data.toList = fxRng r := by
                rw [app_list, app_list, app_list, app_list, app_list, app_list, hA, hC, bs_list, bs_list]; rfl
              show _ = _
              refine bs_eq ?_
              rw [app_list, bs_list, h1, hti.out]
              exact List.append_assoc _ _ _
            obtain ⟨ST, hST⟩ : ∃ ST, ST = bs ([32, 32] ++ fxWords x ++ [10] ++ (x.rs.take k).flatMap fxRng) := ⟨_, rfl⟩
            rw [← hST] at hl5 hfin
            rw [← hST]
            obtain ⟨Q7, y7⟩ := sum_ok hl5 y6 (by omega)
            clear hA hC hST hti y1 y2 y3 y4 y5 y6 y7
            go_wp2_with fail
            obtain ⟨W0, hW0⟩ : ∃ W0, W0 = wr.alloc (.cells #[.int .i64 r.lo, .int .i64 r.hi, .string r.name] 67) := ⟨_, rfl⟩
            have b0 : Bl wr W0 := by rw [hW0]; exact (Bl.refl wr).alloc _
            have e0 : W0.cell? ⟨wr.heap.size, 0, none⟩ = some (.int .i64 r.lo) := by rw [hW0]; simp
            have e1 : W0.cell? ⟨wr.heap.size, 1, none⟩ = some (.int .i64 r.hi) := by rw [hW0]; simp
            have e2 : W0.cell? ⟨wr.heap.size, 2, none⟩ = some (.string r.name) := by rw [hW0]; simp
            rw [← hW0]
            clear hW0 c0 c1 c2
            have f0 := e0
            have f1 := e1
            have f2 := e2
            have hB0 : Bl w W0 := HB.out.trans b0
            go_region_held3 (fun w' => w'.cell? ⟨wr.heap.size, 0, none⟩ = some (.int .i64 r.lo) ∧ w'.cell? ⟨wr.heap.size, 1, none⟩ = some (.int .i64 r.hi) ∧ w'.cell? ⟨wr.heap.size, 2, none⟩ = some (.string r.name))
              (refine ⟨Bl.cell (w := W0) ?_ f0, Bl.cell (w := W0) ?_ f1, Bl.cell (w := W0) ?_ f2⟩ <;> (((repeat (first | with_reducible exact Bl.refl _ | with_reducible assumption | with_reducible refine Bl.drew ?_ | with_reducible refine Bl.alloc ?_ _ | with_reducible refine Bl.trans ?_ (by assumption))); done); done))
              (first
                | (go_at_call 63; (with_reducible refine (HS1.out _ (hB0.trans ?_)).mono ?_); (focus ((repeat (first | with_reducible exact Bl.refl _ | with_reducible assumption | with_reducible refine Bl.drew ?_ | with_reducible refine Bl.alloc ?_ _ | with_reducible refine Bl.trans ?_ (by assumption))); done)); rintro e' w6 ⟨rfl, m6⟩)
                | (go_at_call 63; (with_reducible refine (HS2.out _ (hB0.trans ?_)).mono ?_); (focus ((repeat (first | with_reducible exact Bl.refl _ | with_reducible assumption | with_reducible refine Bl.drew ?_ | with_reducible refine Bl.alloc ?_ _ | with_reducible refine Bl.trans ?_ (by assumption))); done)); rintro e' w7 ⟨rfl, m7⟩))
            all_goals
              go_wp2
              refine ⟨⟨k + 1, by omega, by congr 1, by rw [hfin.out], hB0.trans (by ((repeat (first | with_reducible exact Bl.refl _ | with_reducible assumption | with_reducible refine Bl.drew ?_ | with_reducible refine Bl.alloc ?_ _ | with_reducible refine Bl.trans ?_ (by assumption))); done))⟩, by simp [intOf]; omega⟩
          · obtain rfl : k = x.rs.length := by omega
            have hR : Hid (bs ([32, 32] ++ fxWords x ++ [10] ++ (x.rs.take x.rs.length).flatMap fxRng) = bs (fxPar x)) := by show _ = _; rw [List.take_length]; rfl
            obtain ⟨ZZ, hZZ⟩ : ∃ ZZ, ZZ = bs ([32, 32] ++ fxWords x ++ [10] ++ (x.rs.take x.rs.length).flatMap fxRng) := ⟨_, rfl⟩
            have HZZ : Hid (ZZ = bs (fxPar x)) := hZZ.trans hR.out
            rw [← hZZ]
            clear hR hZZ
            go_wp2
            go_ret
            exact ⟨by rw [← HZZ.out]; rfl, HB.out⟩
      | true =>
        have hf' : (x.fine != 0) = false := by simpa using hf
        have hd' : (x.dflt != 0) = false := by simpa using hd
        obtain ⟨R9, q9⟩ := sum_ok (a := T) (b := ⟨#[32, 115, 110, 97, 112]⟩) (n := 5) q4 (Nat.le_refl 5) (by decide)
        obtain ⟨Rz, qz⟩ := sum_ok (a := T ++ ⟨#[32, 115, 110, 97, 112]⟩) (b := ⟨#[10]⟩) (n := 1) q9 (Nat.le_refl 1) (by decide)
        have hV : Hid (T ++ ⟨#[32, 115, 110, 97, 112]⟩ ++ ⟨#[10]⟩ = bs ([32, 32] ++ fxWords x ++ [10])) := by
          show _ = _
          rw [← HX.out ([]) ([]) ([32, 115, 110, 97, 112]) (by unfold fxFine; rw [if_pos hf]) (by unfold fxDflt; rw [if_pos hd]) (by rw [hs]; rfl)]
          refine bs_eq ?_
          simp only [app_list, hT.out, bs_list, List.append_assoc, List.append_nil]
          try rfl
        clear hT HX hf hd
        rw [hs] at k5
        go_wp2_with fail
        have BZ := Lib.hid (bW.trans B6.out)
        generalize T ++ ⟨#[32, 115, 110, 97, 112]⟩ ++ ⟨#[10]⟩ = Z at *
        go_loopw [3, 48] (fun vs vi wr => ∃ k : Nat, k ≤ x.rs.length ∧ vi = .int .i64 k ∧ vs = .string (bs ([32, 32] ++ fxWords x ++ [10] ++ (x.rs.take k).flatMap fxRng)) ∧ Hid (Bl w wr)) (fun _ vi _ => x.rs.length - (intOf vi).toNat)
        case atStart => exact ⟨0, Nat.zero_le _, rfl, (by rw [hV.out]; simp), BZ.out⟩
        case round =>
          obtain ⟨k, hk, rfl, rfl, HB⟩ := hrel
          rename World => wr
          by_cases hlt : k < x.rs.length
          · obtain ⟨o', c', ev, _, hp'⟩ := HRv.out
            obtain ⟨rfl, rfl⟩ : o = o' ∧ c = c' := by cases ev; exact ⟨rfl, rfl⟩
            clear ev
            obtain ⟨br, offr, rfl, hLr⟩ := hp' (by omega)
            clear hp'
            obtain ⟨c0, c1, c2⟩ := (hLr k hlt).bl HB.out
            have hti := Lib.hid (flat_take fxRng x.rs k hlt)
            have hgr := HGR.out x.rs[k] (List.getElem_mem hlt)
            have hl5 : (bs ([32, 32] ++ fxWords x ++ [10] ++ (x.rs.take k).flatMap fxRng)).size ≤ 5000 := by
              have h1 := len_take fxRng 60 30 x.rs k (fun r hr => fxRng_len (HGR.out r hr)) hrs30
              have h2 := hw90
              rw [bs_size]; simp only [List.length_append, List.length_cons, List.length_nil]; omega
            obtain ⟨r, hr⟩ : ∃ r, r = x.rs[k] := ⟨_, rfl⟩
            rw [← hr] at hti c0 c1 c2 hgr
            clear hr hLr
            obtain ⟨⟨r0, r1, r2⟩, rn⟩ := hgr
            have i1 : (k : Int) < (x.rs.length : Int) := by omega
            have hn20 : r.name.size ≤ 20 := by rw [← lst_len]; exact isNm_len rn
            have hA10 : (bs (lvShow r.lo)).size ≤ 10 := by rw [bs_size]; exact lvShow_l10 r0 (by omega)
            have hC10 : (bs (lvShow r.hi)).size ≤ 10 := by rw [bs_size]; exact lvShow_l10 (by omega) r2
            have HS1 := Lib.hid (fun w' (m : Bl w w') => showR_fx r.lo w' r0 (by omega) (HPW.out w' m))
            have HS2 := Lib.hid (fun w' (m : Bl w w') => showR_fx r.hi w' (by omega) r2 (HPW.out w' m))
            obtain ⟨A, hA⟩ : ∃ D, D = bs (lvShow r.lo) := ⟨_, rfl⟩
            obtain ⟨C, hC⟩ : ∃ D, D = bs (lvShow r.hi) := ⟨_, rfl⟩
            rw [← hA] at hA10 HS1
            rw [← hC] at hC10 HS2
            obtain ⟨Q1, y1⟩ := sum_ok (a := ⟨#[32, 32, 32, 32]⟩) (m := 4) (b := A) (Nat.le_refl 4) hA10 (by decide)
            obtain ⟨Q2, y2⟩ := sum_ok (b := ⟨#[32]⟩) (n := 1) y1 (Nat.le_refl 1) (by decide)
            obtain ⟨Q3, y3⟩ := sum_ok (b := C) y2 hC10 (by decide)
            obtain ⟨Q4, y4⟩ := sum_ok (b := ⟨#[32]⟩) (n := 1) y3 (Nat.le_refl 1) (by decide)
            obtain ⟨Q5, y5⟩ := sum_ok (b := r.name) y4 hn20 (by decide)
            obtain ⟨Q6, y6⟩ := sum_ok (b := ⟨#[10]⟩) (n := 1) y5 (Nat.le_refl 1) (by decide)
            have hfin : Hid (bs ([32, 32] ++ fxWords x ++ [10] ++ (x.rs.take k).flatMap fxRng) ++ (⟨#[32, 32, 32, 32]⟩ ++ A ++ ⟨#[32]⟩ ++ C ++ ⟨#[32]⟩ ++ r.name ++ ⟨#[10]⟩) = bs ([32, 32] ++ fxWords x ++ [10] ++ (x.rs.take (k + 1)).flatMap fxRng)) := by
              have h1 : (⟨#[32, 32, 32, 32]⟩ ++ A ++ ⟨#[32]⟩ ++ C ++ ⟨#[32]⟩ ++ r.name ++ ⟨#[10]⟩ : ByteArray).data.toList = fxRng r := by
                rw [app_list, app_list, app_list, app_list, app_list, app_list, hA, hC, bs_list, bs_list]; rfl
              show _ = _
              refine bs_eq ?_
              rw [app_list, bs_list, h1, hti.out]
              exact List.append_assoc _ _ _
            obtain ⟨ST, hST⟩ : ∃ ST, ST = bs ([32, 32] ++ fxWords x ++ [10] ++ (x.rs.take k).flatMap fxRng) := ⟨_, rfl⟩
            rw [← hST] at hl5 hfin
            rw [← hST]
            obtain ⟨Q7, y7⟩ := sum_ok hl5 y6 (by omega)
            clear hA hC hST hti y1 y2 y3 y4 y5 y6 y7
            go_wp2_with fail
            obtain ⟨W0, hW0⟩ : ∃ W0, W0 = wr.alloc (.cells #[.int .i64 r.lo, .int .i64 r.hi, .string r.name] 67) := ⟨_, rfl⟩
            have b0 : Bl wr W0 := by rw [hW0]; exact (Bl.refl wr).alloc _
            have e0 : W0.cell? ⟨wr.heap.size, 0, none⟩ = some (.int .i64 r.lo) := by rw [hW0]; simp
            have e1 : W0.cell? ⟨wr.heap.size, 1, none⟩ = some (.int .i64 r.hi) := by rw [hW0]; simp
            have e2 : W0.cell? ⟨wr.heap.size, 2, none⟩ = some (.string r.name) := by rw [hW0]; simp
            rw [← hW0]
            clear hW0 c0 c1 c2
            have f0 := e0
            have f1 := e1
            have f2 := e2
            have hB0 : Bl w W0 := HB.out.trans b0
            go_region_held3 (fun w' => w'.cell? ⟨wr.heap.size, 0, none⟩ = some (.int .i64 r.lo) ∧ w'.cell? ⟨wr.heap.size, 1, none⟩ = some (.int .i64 r.hi) ∧ w'.cell? ⟨wr.heap.size, 2, none⟩ = some (.string r.name))
              (refine ⟨Bl.cell (w := W0) ?_ f0, Bl.cell (w := W0) ?_ f1, Bl.cell (w := W0) ?_ f2⟩ <;> (((repeat (first | with_reducible exact Bl.refl _ | with_reducible assumption | with_reducible refine Bl.drew ?_ | with_reducible refine Bl.alloc ?_ _ | with_reducible refine Bl.trans ?_ (by assumption))); done); done))
              (first
                | (go_at_call 63; (with_reducible refine (HS1.out _ (hB0.trans ?_)).mono ?_); (focus ((repeat (first | with_reducible exact Bl.refl _ | with_reducible assumption | with_reducible refine Bl.drew ?_ | with_reducible refine Bl.alloc ?_ _ | with_reducible refine Bl.trans ?_ (by assumption))); done)); rintro e' w6 ⟨rfl, m6⟩)
                | (go_at_call 63; (with_reducible refine (HS2.out _ (hB0.trans ?_)).mono ?_); (focus ((repeat (first | with_reducible exact Bl.refl _ | with_reducible assumption | with_reducible refine Bl.drew ?_ | with_reducible refine Bl.alloc ?_ _ | with_reducible refine Bl.trans ?_ (by assumption))); done)); rintro e' w7 ⟨rfl, m7⟩))
            all_goals
              go_wp2
              refine ⟨⟨k + 1, by omega, by congr 1, by rw [hfin.out], hB0.trans (by ((repeat (first | with_reducible exact Bl.refl _ | with_reducible assumption | with_reducible refine Bl.drew ?_ | with_reducible refine Bl.alloc ?_ _ | with_reducible refine Bl.trans ?_ (by assumption))); done))⟩, by simp [intOf]; omega⟩
          · obtain rfl : k = x.rs.length := by omega
            have hR : Hid (bs ([32, 32] ++ fxWords x ++ [10] ++ (x.rs.take x.rs.length).flatMap fxRng) = bs (fxPar x)) := by show _ = _; rw [List.take_length]; rfl
            obtain ⟨ZZ, hZZ⟩ : ∃ ZZ, ZZ = bs ([32, 32] ++ fxWords x ++ [10] ++ (x.rs.take x.rs.length).flatMap fxRng) := ⟨_, rfl⟩
            have HZZ : Hid (ZZ = bs (fxPar x)) := hZZ.trans hR.out
            rw [← hZZ]
            clear hR hZZ
            go_wp2
            go_ret
            exact ⟨by rw [← HZZ.out]; rfl, HB.out⟩
    · cases hs : x.snap with
      | false =>
        have hf' : (x.fine != 0) = false := by simpa using hf
        have hd' : (x.dflt != 0) = true := by simpa using hd
        obtain ⟨R8, q8⟩ := sum_ok (a := T) (b := ⟨#[32, 100, 101, 102, 97, 117, 108, 116, 32]⟩ ++ La) q4 q6 (by decide)
        obtain ⟨Rz, qz⟩ := sum_ok (a := T ++ (⟨#[32, 100, 101, 102, 97, 117, 108, 116, 32]⟩ ++ La)) (b := ⟨#[10]⟩) (n := 1) q8 (Nat.le_refl 1) (by decide)
        have hV : Hid (T ++ (⟨#[32, 100, 101, 102, 97, 117, 108, 116, 32]⟩ ++ La) ++ ⟨#[10]⟩ = bs ([32, 32] ++ fxWords x ++ [10])) := by
          show _ = _
          rw [← HX.out ([]) ([32, 100, 101, 102, 97, 117, 108, 116, 32] ++ lvShow x.dflt) ([]) (by unfold fxFine; rw [if_pos hf]) (by unfold fxDflt; rw [if_neg hd]) (by rw [hs]; rfl)]
          refine bs_eq ?_
          simp only [app_list, hT.out, HLa.out, bs_list, List.append_assoc, List.append_nil]
          try rfl
        clear hT HX hf hd
        rw [hs] at k5
        go_wp2_with (first
          | (go_at_call 63; (with_reducible refine (HSh.out _ B6.out).mono ?_); rintro e' w8 ⟨rfl, m8⟩; have B8 := Lib.hid (B6.out.trans m8); clear k0 k1 k2 k3 k4 k5 k6; obtain ⟨k0, k1, k2, k3, k4, k5, k6⟩ := HC.out _ B8.out; simp only [Nat.zero_add] at k1 k2 k3 k4 k5 k6; rw [hs] at k5))
        have BZ := Lib.hid (bW.trans B8.out)
        generalize T ++ (⟨#[32, 100, 101, 102, 97, 117, 108, 116, 32]⟩ ++ La) ++ ⟨#[10]⟩ = Z at *
        go_loopw [3, 48] (fun vs vi wr => ∃ k : Nat, k ≤ x.rs.length ∧ vi = .int .i64 k ∧ vs = .string (bs ([32, 32] ++ fxWords x ++ [10] ++ (x.rs.take k).flatMap fxRng)) ∧ Hid (Bl w wr)) (fun _ vi _ => x.rs.length - (intOf vi).toNat)
        case atStart => exact ⟨0, Nat.zero_le _, rfl, (by rw [hV.out]; simp), BZ.out⟩
        case round =>
          obtain ⟨k, hk, rfl, rfl, HB⟩ := hrel
          rename World => wr
          by_cases hlt : k < x.rs.length
          · obtain ⟨o', c', ev, _, hp'⟩ := HRv.out
            obtain ⟨rfl, rfl⟩ : o = o' ∧ c = c' := by cases ev; exact ⟨rfl, rfl⟩
            clear ev
            obtain ⟨br, offr, rfl, hLr⟩ := hp' (by omega)
            clear hp'
            obtain ⟨c0, c1, c2⟩ := (hLr k hlt).bl HB.out
            have hti := Lib.hid (flat_take fxRng x.rs k hlt)
            have hgr := HGR.out x.rs[k] (List.getElem_mem hlt)
            have hl5 : (bs ([32, 32] ++ fxWords x ++ [10] ++ (x.rs.take k).flatMap fxRng)).size ≤ 5000 := by
              have h1 := len_take fxRng 60 30 x.rs k (fun r hr => fxRng_len (HGR.out r hr)) hrs30
              have h2 := hw90
              rw [bs_size]; simp only [List.length_append, List.length_cons, List.length_nil]; omega
            obtain ⟨r, hr⟩ : ∃ r, r = x.rs[k] := ⟨_, rfl⟩
            rw [← hr] at hti c0 c1 c2 hgr
            clear hr hLr
            obtain ⟨⟨r0, r1, r2⟩, rn⟩ := hgr
            have i1 : (k : Int) < (x.rs.length : Int) := by omega
            have hn20 : r.name.size ≤ 20 := by rw [← lst_len]; exact isNm_len rn
            have hA10 : (bs (lvShow r.lo)).size ≤ 10 := by rw [bs_size]; exact lvShow_l10 r0 (by omega)
            have hC10 : (bs (lvShow r.hi)).size ≤ 10 := by rw [bs_size]; exact lvShow_l10 (by omega) r2
            have HS1 := Lib.hid (fun w' (m : Bl w w') => showR_fx r.lo w' r0 (by omega) (HPW.out w' m))
            have HS2 := Lib.hid (fun w' (m : Bl w w') => showR_fx r.hi w' (by omega) r2 (HPW.out w' m))
            obtain ⟨A, hA⟩ : ∃ D, D = bs (lvShow r.lo) := ⟨_, rfl⟩
            obtain ⟨C, hC⟩ : ∃ D, D = bs (lvShow r.hi) := ⟨_, rfl⟩
            rw [← hA] at hA10 HS1
            rw [← hC] at hC10 HS2
            obtain ⟨Q1, y1⟩ := sum_ok (a := ⟨#[32, 32, 32, 32]⟩) (m := 4) (b := A) (Nat.le_refl 4) hA10 (by decide)
            obtain ⟨Q2, y2⟩ := sum_ok (b := ⟨#[32]⟩) (n := 1) y1 (Nat.le_refl 1) (by decide)
            obtain ⟨Q3, y3⟩ := sum_ok (b := C) y2 hC10 (by decide)
            obtain ⟨Q4, y4⟩ := sum_ok (b := ⟨#[32]⟩) (n := 1) y3 (Nat.le_refl 1) (by decide)
            obtain ⟨Q5, y5⟩ := sum_ok (b := r.name) y4 hn20 (by decide)
            obtain ⟨Q6, y6⟩ := sum_ok (b := ⟨#[10]⟩) (n := 1) y5 (Nat.le_refl 1) (by decide)
            have hfin : Hid (bs ([32, 32] ++ fxWords x ++ [10] ++ (x.rs.take k).flatMap fxRng) ++ (⟨#[32, 32, 32, 32]⟩ ++ A ++ ⟨#[32]⟩ ++ C ++ ⟨#[32]⟩ ++ r.name ++ ⟨#[10]⟩) = bs ([32, 32] ++ fxWords x ++ [10] ++ (x.rs.take (k + 1)).flatMap fxRng)) := by
              have h1 : (⟨#[32, 32, 32, 32]⟩ ++ A ++ ⟨#[32]⟩ ++ C ++ ⟨#[32]⟩ ++ r.name ++ ⟨#[10]⟩ : ByteArray).data.toList = fxRng r := by
                rw [app_list, app_list, app_list, app_list, app_list, app_list, hA, hC, bs_list, bs_list]; rfl
              show _ = _
              refine bs_eq ?_
              rw [app_list, bs_list, h1, hti.out]
              exact List.append_assoc _ _ _
            obtain ⟨ST, hST⟩ : ∃ ST, ST = bs ([32, 32] ++ fxWords x ++ [10] ++ (x.rs.take k).flatMap fxRng) := ⟨_, rfl⟩
            rw [← hST] at hl5 hfin
            rw [← hST]
            obtain ⟨Q7, y7⟩ := sum_ok hl5 y6 (by omega)
            clear hA hC hST hti y1 y2 y3 y4 y5 y6 y7
            go_wp2_with fail
            obtain ⟨W0, hW0⟩ : ∃ W0, W0 = wr.alloc (.cells #[.int .i64 r.lo, .int .i64 r.hi, .string r.name] 67) := ⟨_, rfl⟩
            have b0 : Bl wr W0 := by rw [hW0]; exact (Bl.refl wr).alloc _
            have e0 : W0.cell? ⟨wr.heap.size, 0, none⟩ = some (.int .i64 r.lo) := by rw [hW0]; simp
            have e1 : W0.cell? ⟨wr.heap.size, 1, none⟩ = some (.int .i64 r.hi) := by rw [hW0]; simp
            have e2 : W0.cell? ⟨wr.heap.size, 2, none⟩ = some (.string r.name) := by rw [hW0]; simp
            rw [← hW0]
            clear hW0 c0 c1 c2
            have f0 := e0
            have f1 := e1
            have f2 := e2
            have hB0 : Bl w W0 := HB.out.trans b0
            go_region_held3 (fun w' => w'.cell? ⟨wr.heap.size, 0, none⟩ = some (.int .i64 r.lo) ∧ w'.cell? ⟨wr.heap.size, 1, none⟩ = some (.int .i64 r.hi) ∧ w'.cell? ⟨wr.heap.size, 2, none⟩ = some (.string r.name))
              (refine ⟨Bl.cell (w := W0) ?_ f0, Bl.cell (w := W0) ?_ f1, Bl.cell (w := W0) ?_ f2⟩ <;> (((repeat (first | with_reducible exact Bl.refl _ | with_reducible assumption | with_reducible refine Bl.drew ?_ | with_reducible refine Bl.alloc ?_ _ | with_reducible refine Bl.trans ?_ (by assumption))); done); done))
              (first
                | (go_at_call 63; (with_reducible refine (HS1.out _ (hB0.trans ?_)).mono ?_); (focus ((repeat (first | with_reducible exact Bl.refl _ | with_reducible assumption | with_reducible refine Bl.drew ?_ | with_reducible refine Bl.alloc ?_ _ | with_reducible refine Bl.trans ?_ (by assumption))); done)); rintro e' w6 ⟨rfl, m6⟩)
                | (go_at_call 63; (with_reducible refine (HS2.out _ (hB0.trans ?_)).mono ?_); (focus ((repeat (first | with_reducible exact Bl.refl _ | with_reducible assumption | with_reducible refine Bl.drew ?_ | with_reducible refine Bl.alloc ?_ _ | with_reducible refine Bl.trans ?_ (by assumption))); done)); rintro e' w7 ⟨rfl, m7⟩))
            all_goals
              go_wp2
              refine ⟨⟨k + 1, by omega, by congr 1, by rw [hfin.out], hB0.trans (by ((repeat (first | with_reducible exact Bl.refl _ | with_reducible assumption | with_reducible refine Bl.drew ?_ | with_reducible refine Bl.alloc ?_ _ | with_reducible refine Bl.trans ?_ (by assumption))); done))⟩, by simp [intOf]; omega⟩
          · obtain rfl : k = x.rs.length := by omega
            have hR : Hid (bs ([32, 32] ++ fxWords x ++ [10] ++ (x.rs.take x.rs.length).flatMap fxRng) = bs (fxPar x)) := by show _ = _; rw [List.take_length]; rfl
            obtain ⟨ZZ, hZZ⟩ : ∃ ZZ, ZZ = bs ([32, 32] ++ fxWords x ++ [10] ++ (x.rs.take x.rs.length).flatMap fxRng) := ⟨_, rfl⟩
            have HZZ : Hid (ZZ = bs (fxPar x)) := hZZ.trans hR.out
            rw [← hZZ]
            clear hR hZZ
            go_wp2
            go_ret
            exact ⟨by rw [← HZZ.out]; rfl, HB.out⟩
      | true =>
        have hf' : (x.fine != 0) = false := by simpa using hf
        have hd' : (x.dflt != 0) = true := by simpa using hd
        obtain ⟨R8, q8⟩ := sum_ok (a := T) (b := ⟨#[32, 100, 101, 102, 97, 117, 108, 116, 32]⟩ ++ La) q4 q6 (by decide)
        obtain ⟨R9, q9⟩ := sum_ok (a := T ++ (⟨#[32, 100, 101, 102, 97, 117, 108, 116, 32]⟩ ++ La)) (b := ⟨#[32, 115, 110, 97, 112]⟩) (n := 5) q8 (Nat.le_refl 5) (by decide)
        obtain ⟨Rz, qz⟩ := sum_ok (a := T ++ (⟨#[32, 100, 101, 102, 97, 117, 108, 116, 32]⟩ ++ La) ++ ⟨#[32, 115, 110, 97, 112]⟩) (b := ⟨#[10]⟩) (n := 1) q9 (Nat.le_refl 1) (by decide)
        have hV : Hid (T ++ (⟨#[32, 100, 101, 102, 97, 117, 108, 116, 32]⟩ ++ La) ++ ⟨#[32, 115, 110, 97, 112]⟩ ++ ⟨#[10]⟩ = bs ([32, 32] ++ fxWords x ++ [10])) := by
          show _ = _
          rw [← HX.out ([]) ([32, 100, 101, 102, 97, 117, 108, 116, 32] ++ lvShow x.dflt) ([32, 115, 110, 97, 112]) (by unfold fxFine; rw [if_pos hf]) (by unfold fxDflt; rw [if_neg hd]) (by rw [hs]; rfl)]
          refine bs_eq ?_
          simp only [app_list, hT.out, HLa.out, bs_list, List.append_assoc, List.append_nil]
          try rfl
        clear hT HX hf hd
        rw [hs] at k5
        go_wp2_with (first
          | (go_at_call 63; (with_reducible refine (HSh.out _ B6.out).mono ?_); rintro e' w8 ⟨rfl, m8⟩; have B8 := Lib.hid (B6.out.trans m8); clear k0 k1 k2 k3 k4 k5 k6; obtain ⟨k0, k1, k2, k3, k4, k5, k6⟩ := HC.out _ B8.out; simp only [Nat.zero_add] at k1 k2 k3 k4 k5 k6; rw [hs] at k5))
        have BZ := Lib.hid (bW.trans B8.out)
        generalize T ++ (⟨#[32, 100, 101, 102, 97, 117, 108, 116, 32]⟩ ++ La) ++ ⟨#[32, 115, 110, 97, 112]⟩ ++ ⟨#[10]⟩ = Z at *
        go_loopw [3, 48] (fun vs vi wr => ∃ k : Nat, k ≤ x.rs.length ∧ vi = .int .i64 k ∧ vs = .string (bs ([32, 32] ++ fxWords x ++ [10] ++ (x.rs.take k).flatMap fxRng)) ∧ Hid (Bl w wr)) (fun _ vi _ => x.rs.length - (intOf vi).toNat)
        case atStart => exact ⟨0, Nat.zero_le _, rfl, (by rw [hV.out]; simp), BZ.out⟩
        case round =>
          obtain ⟨k, hk, rfl, rfl, HB⟩ := hrel
          rename World => wr
          by_cases hlt : k < x.rs.length
          · obtain ⟨o', c', ev, _, hp'⟩ := HRv.out
            obtain ⟨rfl, rfl⟩ : o = o' ∧ c = c' := by cases ev; exact ⟨rfl, rfl⟩
            clear ev
            obtain ⟨br, offr, rfl, hLr⟩ := hp' (by omega)
            clear hp'
            obtain ⟨c0, c1, c2⟩ := (hLr k hlt).bl HB.out
            have hti := Lib.hid (flat_take fxRng x.rs k hlt)
            have hgr := HGR.out x.rs[k] (List.getElem_mem hlt)
            have hl5 : (bs ([32, 32] ++ fxWords x ++ [10] ++ (x.rs.take k).flatMap fxRng)).size ≤ 5000 := by
              have h1 := len_take fxRng 60 30 x.rs k (fun r hr => fxRng_len (HGR.out r hr)) hrs30
              have h2 := hw90
              rw [bs_size]; simp only [List.length_append, List.length_cons, List.length_nil]; omega
            obtain ⟨r, hr⟩ : ∃ r, r = x.rs[k] := ⟨_, rfl⟩
            rw [← hr] at hti c0 c1 c2 hgr
            clear hr hLr
            obtain ⟨⟨r0, r1, r2⟩, rn⟩ := hgr
            have i1 : (k : Int) < (x.rs.length : Int) := by omega
            have hn20 : r.name.size ≤ 20 := by rw [← lst_len]; exact isNm_len rn
            have hA10 : (bs (lvShow r.lo)).size ≤ 10 := by rw [bs_size]; exact lvShow_l10 r0 (by omega)
            have hC10 : (bs (lvShow r.hi)).size ≤ 10 := by rw [bs_size]; exact lvShow_l10 (by omega) r2
            have HS1 := Lib.hid (fun w' (m : Bl w w') => showR_fx r.lo w' r0 (by omega) (HPW.out w' m))
            have HS2 := Lib.hid (fun w' (m : Bl w w') => showR_fx r.hi w' (by omega) r2 (HPW.out w' m))
            obtain ⟨A, hA⟩ : ∃ D, D = bs (lvShow r.lo) := ⟨_, rfl⟩
            obtain ⟨C, hC⟩ : ∃ D, D = bs (lvShow r.hi) := ⟨_, rfl⟩
            rw [← hA] at hA10 HS1
            rw [← hC] at hC10 HS2
            obtain ⟨Q1, y1⟩ := sum_ok (a := ⟨#[32, 32, 32, 32]⟩) (m := 4) (b := A) (Nat.le_refl 4) hA10 (by decide)
            obtain ⟨Q2, y2⟩ := sum_ok (b := ⟨#[32]⟩) (n := 1) y1 (Nat.le_refl 1) (by decide)
            obtain ⟨Q3, y3⟩ := sum_ok (b := C) y2 hC10 (by decide)
            obtain ⟨Q4, y4⟩ := sum_ok (b := ⟨#[32]⟩) (n := 1) y3 (Nat.le_refl 1) (by decide)
            obtain ⟨Q5, y5⟩ := sum_ok (b := r.name) y4 hn20 (by decide)
            obtain ⟨Q6, y6⟩ := sum_ok (b := ⟨#[10]⟩) (n := 1) y5 (Nat.le_refl 1) (by decide)
            have hfin : Hid (bs ([32, 32] ++ fxWords x ++ [10] ++ (x.rs.take k).flatMap fxRng) ++ (⟨#[32, 32, 32, 32]⟩ ++ A ++ ⟨#[32]⟩ ++ C ++ ⟨#[32]⟩ ++ r.name ++ ⟨#[10]⟩) = bs ([32, 32] ++ fxWords x ++ [10] ++ (x.rs.take (k + 1)).flatMap fxRng)) := by
              have h1 : (⟨#[32, 32, 32, 32]⟩ ++ A ++ ⟨#[32]⟩ ++ C ++ ⟨#[32]⟩ ++ r.name ++ ⟨#[10]⟩ : ByteArray).data.toList = fxRng r := by
                rw [app_list, app_list, app_list, app_list, app_list, app_list, hA, hC, bs_list, bs_list]; rfl
              show _ = _
              refine bs_eq ?_
              rw [app_list, bs_list, h1, hti.out]
              exact List.append_assoc _ _ _
            obtain ⟨ST, hST⟩ : ∃ ST, ST = bs ([32, 32] ++ fxWords x ++ [10] ++ (x.rs.take k).flatMap fxRng) := ⟨_, rfl⟩
            rw [← hST] at hl5 hfin
            rw [← hST]
            obtain ⟨Q7, y7⟩ := sum_ok hl5 y6 (by omega)
            clear hA hC hST hti y1 y2 y3 y4 y5 y6 y7
            go_wp2_with fail
            obtain ⟨W0, hW0⟩ : ∃ W0, W0 = wr.alloc (.cells #[.int .i64 r.lo, .int .i64 r.hi, .string r.name] 67) := ⟨_, rfl⟩
            have b0 : Bl wr W0 := by rw [hW0]; exact (Bl.refl wr).alloc _
            have e0 : W0.cell? ⟨wr.heap.size, 0, none⟩ = some (.int .i64 r.lo) := by rw [hW0]; simp
            have e1 : W0.cell? ⟨wr.heap.size, 1, none⟩ = some (.int .i64 r.hi) := by rw [hW0]; simp
            have e2 : W0.cell? ⟨wr.heap.size, 2, none⟩ = some (.string r.name) := by rw [hW0]; simp
            rw [← hW0]
            clear hW0 c0 c1 c2
            have f0 := e0
            have f1 := e1
            have f2 := e2
            have hB0 : Bl w W0 := HB.out.trans b0
            go_region_held3 (fun w' => w'.cell? ⟨wr.heap.size, 0, none⟩ = some (.int .i64 r.lo) ∧ w'.cell? ⟨wr.heap.size, 1, none⟩ = some (.int .i64 r.hi) ∧ w'.cell? ⟨wr.heap.size, 2, none⟩ = some (.string r.name))
              (refine ⟨Bl.cell (w := W0) ?_ f0, Bl.cell (w := W0) ?_ f1, Bl.cell (w := W0) ?_ f2⟩ <;> (((repeat (first | with_reducible exact Bl.refl _ | with_reducible assumption | with_reducible refine Bl.drew ?_ | with_reducible refine Bl.alloc ?_ _ | with_reducible refine Bl.trans ?_ (by assumption))); done); done))
              (first
                | (go_at_call 63; (with_reducible refine (HS1.out _ (hB0.trans ?_)).mono ?_); (focus ((repeat (first | with_reducible exact Bl.refl _ | with_reducible assumption | with_reducible refine Bl.drew ?_ | with_reducible refine Bl.alloc ?_ _ | with_reducible refine Bl.trans ?_ (by assumption))); done)); rintro e' w6 ⟨rfl, m6⟩)
                | (go_at_call 63; (with_reducible refine (HS2.out _ (hB0.trans ?_)).mono ?_); (focus ((repeat (first | with_reducible exact Bl.refl _ | with_reducible assumption | with_reducible refine Bl.drew ?_ | with_reducible refine Bl.alloc ?_ _ | with_reducible refine Bl.trans ?_ (by assumption))); done)); rintro e' w7 ⟨rfl, m7⟩))
            all_goals
              go_wp2
              refine ⟨⟨k + 1, by omega, by congr 1, by rw [hfin.out], hB0.trans (by ((repeat (first | with_reducible exact Bl.refl _ | with_reducible assumption | with_reducible refine Bl.drew ?_ | with_reducible refine Bl.alloc ?_ _ | with_reducible refine Bl.trans ?_ (by assumption))); done))⟩, by simp [intOf]; omega⟩
          · obtain rfl : k = x.rs.length := by omega
            have hR : Hid (bs ([32, 32] ++ fxWords x ++ [10] ++ (x.rs.take x.rs.length).flatMap fxRng) = bs (fxPar x)) := by show _ = _; rw [List.take_length]; rfl
            obtain ⟨ZZ, hZZ⟩ : ∃ ZZ, ZZ = bs ([32, 32] ++ fxWords x ++ [10] ++ (x.rs.take x.rs.length).flatMap fxRng) := ⟨_, rfl⟩
            have HZZ : Hid (ZZ = bs (fxPar x)) := hZZ.trans hR.out
            rw [← hZZ]
            clear hR hZZ
            go_wp2
            go_ret
            exact ⟨by rw [← HZZ.out]; rfl, HB.out⟩
  · by_cases hd : x.dflt = 0
    · cases hs : x.snap with
      | false =>
        have hf' : (x.fine != 0) = true := by simpa using hf
        obtain ⟨R7, q7⟩ := sum_ok (a := T) (b := ⟨#[32, 102, 105, 110, 101, 32]⟩ ++ Fa) q4 q5 (by decide)
        have hd' : (x.dflt != 0) = false := by simpa using hd
        obtain ⟨Rz, qz⟩ := sum_ok (a := T ++ (⟨#[32, 102, 105, 110, 101, 32]⟩ ++ Fa)) (b := ⟨#[10]⟩) (n := 1) q7 (Nat.le_refl 1) (by decide)
        have hV : Hid (T ++ (⟨#[32, 102, 105, 110, 101, 32]⟩ ++ Fa) ++ ⟨#[10]⟩ = bs ([32, 32] ++ fxWords x ++ [10])) := by
          show _ = _
          rw [← HX.out ([32, 102, 105, 110, 101, 32] ++ decDigits x.fine.toNat) ([]) ([]) (by unfold fxFine; rw [if_neg hf]) (by unfold fxDflt; rw [if_pos hd]) (by rw [hs]; rfl)]
          refine bs_eq ?_
          simp only [app_list, hT.out, HFa.out, bs_list, List.append_assoc, List.append_nil]
          try rfl
        clear hT HX hf hd
        rw [hs] at k5
        go_wp2_with (first
          | (go_at_call 27; (with_reducible refine (HI2.out _ B6.out).mono ?_); rintro e' w7 ⟨rfl, m7⟩; have B7 := Lib.hid (B6.out.trans m7); clear k0 k1 k2 k3 k4 k5 k6; obtain ⟨k0, k1, k2, k3, k4, k5, k6⟩ := HC.out _ B7.out; simp only [Nat.zero_add] at k1 k2 k3 k4 k5 k6; rw [hs] at k5))
        have BZ := Lib.hid (bW.trans B7.out)
        generalize T ++ (⟨#[32, 102, 105, 110, 101, 32]⟩ ++ Fa) ++ ⟨#[10]⟩ = Z at *
        go_loopw [3, 48] (fun vs vi wr => ∃ k : Nat, k ≤ x.rs.length ∧ vi = .int .i64 k ∧ vs = .string (bs ([32, 32] ++ fxWords x ++ [10] ++ (x.rs.take k).flatMap fxRng)) ∧ Hid (Bl w wr)) (fun _ vi _ => x.rs.length - (intOf vi).toNat)
        case atStart => exact ⟨0, Nat.zero_le _, rfl, (by rw [hV.out]; simp), BZ.out⟩
        case round =>
          obtain ⟨k, hk, rfl, rfl, HB⟩ := hrel
          rename World => wr
          by_cases hlt : k < x.rs.length
          · obtain ⟨o', c', ev, _, hp'⟩ := HRv.out
            obtain ⟨rfl, rfl⟩ : o = o' ∧ c = c' := by cases ev; exact ⟨rfl, rfl⟩
            clear ev
            obtain ⟨br, offr, rfl, hLr⟩ := hp' (by omega)
            clear hp'
            obtain ⟨c0, c1, c2⟩ := (hLr k hlt).bl HB.out
            have hti := Lib.hid (flat_take fxRng x.rs k hlt)
            have hgr := HGR.out x.rs[k] (List.getElem_mem hlt)
            have hl5 : (bs ([32, 32] ++ fxWords x ++ [10] ++ (x.rs.take k).flatMap fxRng)).size ≤ 5000 := by
              have h1 := len_take fxRng 60 30 x.rs k (fun r hr => fxRng_len (HGR.out r hr)) hrs30
              have h2 := hw90
              rw [bs_size]; simp only [List.length_append, List.length_cons, List.length_nil]; omega
            obtain ⟨r, hr⟩ : ∃ r, r = x.rs[k] := ⟨_, rfl⟩
            rw [← hr] at hti c0 c1 c2 hgr
            clear hr hLr
            obtain ⟨⟨r0, r1, r2⟩, rn⟩ := hgr
            have i1 : (k : Int) < (x.rs.length : Int) := by omega
            have hn20 : r.name.size ≤ 20 := by rw [← lst_len]; exact isNm_len rn
            have hA10 : (bs (lvShow r.lo)).size ≤ 10 := by rw [bs_size]; exact lvShow_l10 r0 (by omega)
            have hC10 : (bs (lvShow r.hi)).size ≤ 10 := by rw [bs_size]; exact lvShow_l10 (by omega) r2
            have HS1 := Lib.hid (fun w' (m : Bl w w') => showR_fx r.lo w' r0 (by omega) (HPW.out w' m))
            have HS2 := Lib.hid (fun w' (m : Bl w w') => showR_fx r.hi w' (by omega) r2 (HPW.out w' m))
            obtain ⟨A, hA⟩ : ∃ D, D = bs (lvShow r.lo) := ⟨_, rfl⟩
            obtain ⟨C, hC⟩ : ∃ D, D = bs (lvShow r.hi) := ⟨_, rfl⟩
            rw [← hA] at hA10 HS1
            rw [← hC] at hC10 HS2
            obtain ⟨Q1, y1⟩ := sum_ok (a := ⟨#[32, 32, 32, 32]⟩) (m := 4) (b := A) (Nat.le_refl 4) hA10 (by decide)
            obtain ⟨Q2, y2⟩ := sum_ok (b := ⟨#[32]⟩) (n := 1) y1 (Nat.le_refl 1) (by decide)
            obtain ⟨Q3, y3⟩ := sum_ok (b := C) y2 hC10 (by decide)
            obtain ⟨Q4, y4⟩ := sum_ok (b := ⟨#[32]⟩) (n := 1) y3 (Nat.le_refl 1) (by decide)
            obtain ⟨Q5, y5⟩ := sum_ok (b := r.name) y4 hn20 (by decide)
            obtain ⟨Q6, y6⟩ := sum_ok (b := ⟨#[10]⟩) (n := 1) y5 (Nat.le_refl 1) (by decide)
            have hfin : Hid (bs ([32, 32] ++ fxWords x ++ [10] ++ (x.rs.take k).flatMap fxRng) ++ (⟨#[32, 32, 32, 32]⟩ ++ A ++ ⟨#[32]⟩ ++ C ++ ⟨#[32]⟩ ++ r.name ++ ⟨#[10]⟩) = bs ([32, 32] ++ fxWords x ++ [10] ++ (x.rs.take (k + 1)).flatMap fxRng)) := by
              have h1 : (⟨#[32, 32, 32, 32]⟩ ++ A ++ ⟨#[32]⟩ ++ C ++ ⟨#[32]⟩ ++ r.name ++ ⟨#[10]⟩ : ByteArray).data.toList = fxRng r := by
                rw [app_list, app_list, app_list, app_list, app_list, app_list, hA, hC, bs_list, bs_list]; rfl
              show _ = _
              refine bs_eq ?_
              rw [app_list, bs_list, h1, hti.out]
              exact List.append_assoc _ _ _
            obtain ⟨ST, hST⟩ : ∃ ST, ST = bs ([32, 32] ++ fxWords x ++ [10] ++ (x.rs.take k).flatMap fxRng) := ⟨_, rfl⟩
            rw [← hST] at hl5 hfin
            rw [← hST]
            obtain ⟨Q7, y7⟩ := sum_ok hl5 y6 (by omega)
            clear hA hC hST hti y1 y2 y3 y4 y5 y6 y7
            go_wp2_with fail
            obtain ⟨W0, hW0⟩ : ∃ W0, W0 = wr.alloc (.cells #[.int .i64 r.lo, .int .i64 r.hi, .string r.name] 67) := ⟨_, rfl⟩
            have b0 : Bl wr W0 := by rw [hW0]; exact (Bl.refl wr).alloc _
            have e0 : W0.cell? ⟨wr.heap.size, 0, none⟩ = some (.int .i64 r.lo) := by rw [hW0]; simp
            have e1 : W0.cell? ⟨wr.heap.size, 1, none⟩ = some (.int .i64 r.hi) := by rw [hW0]; simp
            have e2 : W0.cell? ⟨wr.heap.size, 2, none⟩ = some (.string r.name) := by rw [hW0]; simp
            rw [← hW0]
            clear hW0 c0 c1 c2
            have f0 := e0
            have f1 := e1
            have f2 := e2
            have hB0 : Bl w W0 := HB.out.trans b0
            go_region_held3 (fun w' => w'.cell? ⟨wr.heap.size, 0, none⟩ = some (.int .i64 r.lo) ∧ w'.cell? ⟨wr.heap.size, 1, none⟩ = some (.int .i64 r.hi) ∧ w'.cell? ⟨wr.heap.size, 2, none⟩ = some (.string r.name))
              (refine ⟨Bl.cell (w := W0) ?_ f0, Bl.cell (w := W0) ?_ f1, Bl.cell (w := W0) ?_ f2⟩ <;> (((repeat (first | with_reducible exact Bl.refl _ | with_reducible assumption | with_reducible refine Bl.drew ?_ | with_reducible refine Bl.alloc ?_ _ | with_reducible refine Bl.trans ?_ (by assumption))); done); done))
              (first
                | (go_at_call 63; (with_reducible refine (HS1.out _ (hB0.trans ?_)).mono ?_); (focus ((repeat (first | with_reducible exact Bl.refl _ | with_reducible assumption | with_reducible refine Bl.drew ?_ | with_reducible refine Bl.alloc ?_ _ | with_reducible refine Bl.trans ?_ (by assumption))); done)); rintro e' w6 ⟨rfl, m6⟩)
                | (go_at_call 63; (with_reducible refine (HS2.out _ (hB0.trans ?_)).mono ?_); (focus ((repeat (first | with_reducible exact Bl.refl _ | with_reducible assumption | with_reducible refine Bl.drew ?_ | with_reducible refine Bl.alloc ?_ _ | with_reducible refine Bl.trans ?_ (by assumption))); done)); rintro e' w7 ⟨rfl, m7⟩))
            all_goals
              go_wp2
              refine ⟨⟨k + 1, by omega, by congr 1, by rw [hfin.out], hB0.trans (by ((repeat (first | with_reducible exact Bl.refl _ | with_reducible assumption | with_reducible refine Bl.drew ?_ | with_reducible refine Bl.alloc ?_ _ | with_reducible refine Bl.trans ?_ (by assumption))); done))⟩, by simp [intOf]; omega⟩
          · obtain rfl : k = x.rs.length := by omega
            have hR : Hid (bs ([32, 32] ++ fxWords x ++ [10] ++ (x.rs.take x.rs.length).flatMap fxRng) = bs (fxPar x)) := by show _ = _; rw [List.take_length]; rfl
            obtain ⟨ZZ, hZZ⟩ : ∃ ZZ, ZZ = bs ([32, 32] ++ fxWords x ++ [10] ++ (x.rs.take x.rs.length).flatMap fxRng) := ⟨_, rfl⟩
            have HZZ : Hid (ZZ = bs (fxPar x)) := hZZ.trans hR.out
            rw [← hZZ]
            clear hR hZZ
            go_wp2
            go_ret
            exact ⟨by rw [← HZZ.out]; rfl, HB.out⟩
      | true =>
        have hf' : (x.fine != 0) = true := by simpa using hf
        obtain ⟨R7, q7⟩ := sum_ok (a := T) (b := ⟨#[32, 102, 105, 110, 101, 32]⟩ ++ Fa) q4 q5 (by decide)
        have hd' : (x.dflt != 0) = false := by simpa using hd
        obtain ⟨R9, q9⟩ := sum_ok (a := T ++ (⟨#[32, 102, 105, 110, 101, 32]⟩ ++ Fa)) (b := ⟨#[32, 115, 110, 97, 112]⟩) (n := 5) q7 (Nat.le_refl 5) (by decide)
        obtain ⟨Rz, qz⟩ := sum_ok (a := T ++ (⟨#[32, 102, 105, 110, 101, 32]⟩ ++ Fa) ++ ⟨#[32, 115, 110, 97, 112]⟩) (b := ⟨#[10]⟩) (n := 1) q9 (Nat.le_refl 1) (by decide)
        have hV : Hid (T ++ (⟨#[32, 102, 105, 110, 101, 32]⟩ ++ Fa) ++ ⟨#[32, 115, 110, 97, 112]⟩ ++ ⟨#[10]⟩ = bs ([32, 32] ++ fxWords x ++ [10])) := by
          show _ = _
          rw [← HX.out ([32, 102, 105, 110, 101, 32] ++ decDigits x.fine.toNat) ([]) ([32, 115, 110, 97, 112]) (by unfold fxFine; rw [if_neg hf]) (by unfold fxDflt; rw [if_pos hd]) (by rw [hs]; rfl)]
          refine bs_eq ?_
          simp only [app_list, hT.out, HFa.out, bs_list, List.append_assoc, List.append_nil]
          try rfl
        clear hT HX hf hd
        rw [hs] at k5
        go_wp2_with (first
          | (go_at_call 27; (with_reducible refine (HI2.out _ B6.out).mono ?_); rintro e' w7 ⟨rfl, m7⟩; have B7 := Lib.hid (B6.out.trans m7); clear k0 k1 k2 k3 k4 k5 k6; obtain ⟨k0, k1, k2, k3, k4, k5, k6⟩ := HC.out _ B7.out; simp only [Nat.zero_add] at k1 k2 k3 k4 k5 k6; rw [hs] at k5))
        have BZ := Lib.hid (bW.trans B7.out)
        generalize T ++ (⟨#[32, 102, 105, 110, 101, 32]⟩ ++ Fa) ++ ⟨#[32, 115, 110, 97, 112]⟩ ++ ⟨#[10]⟩ = Z at *
        go_loopw [3, 48] (fun vs vi wr => ∃ k : Nat, k ≤ x.rs.length ∧ vi = .int .i64 k ∧ vs = .string (bs ([32, 32] ++ fxWords x ++ [10] ++ (x.rs.take k).flatMap fxRng)) ∧ Hid (Bl w wr)) (fun _ vi _ => x.rs.length - (intOf vi).toNat)
        case atStart => exact ⟨0, Nat.zero_le _, rfl, (by rw [hV.out]; simp), BZ.out⟩
        case round =>
          obtain ⟨k, hk, rfl, rfl, HB⟩ := hrel
          rename World => wr
          by_cases hlt : k < x.rs.length
          · obtain ⟨o', c', ev, _, hp'⟩ := HRv.out
            obtain ⟨rfl, rfl⟩ : o = o' ∧ c = c' := by cases ev; exact ⟨rfl, rfl⟩
            clear ev
            obtain ⟨br, offr, rfl, hLr⟩ := hp' (by omega)
            clear hp'
            obtain ⟨c0, c1, c2⟩ := (hLr k hlt).bl HB.out
            have hti := Lib.hid (flat_take fxRng x.rs k hlt)
            have hgr := HGR.out x.rs[k] (List.getElem_mem hlt)
            have hl5 : (bs ([32, 32] ++ fxWords x ++ [10] ++ (x.rs.take k).flatMap fxRng)).size ≤ 5000 := by
              have h1 := len_take fxRng 60 30 x.rs k (fun r hr => fxRng_len (HGR.out r hr)) hrs30
              have h2 := hw90
              rw [bs_size]; simp only [List.length_append, List.length_cons, List.length_nil]; omega
            obtain ⟨r, hr⟩ : ∃ r, r = x.rs[k] := ⟨_, rfl⟩
            rw [← hr] at hti c0 c1 c2 hgr
            clear hr hLr
            obtain ⟨⟨r0, r1, r2⟩, rn⟩ := hgr
            have i1 : (k : Int) < (x.rs.length : Int) := by omega
            have hn20 : r.name.size ≤ 20 := by rw [← lst_len]; exact isNm_len rn
            have hA10 : (bs (lvShow r.lo)).size ≤ 10 := by rw [bs_size]; exact lvShow_l10 r0 (by omega)
            have hC10 : (bs (lvShow r.hi)).size ≤ 10 := by rw [bs_size]; exact lvShow_l10 (by omega) r2
            have HS1 := Lib.hid (fun w' (m : Bl w w') => showR_fx r.lo w' r0 (by omega) (HPW.out w' m))
            have HS2 := Lib.hid (fun w' (m : Bl w w') => showR_fx r.hi w' (by omega) r2 (HPW.out w' m))
            obtain ⟨A, hA⟩ : ∃ D, D = bs (lvShow r.lo) := ⟨_, rfl⟩
            obtain ⟨C, hC⟩ : ∃ D, D = bs (lvShow r.hi) := ⟨_, rfl⟩
            rw [← hA] at hA10 HS1
            rw [← hC] at hC10 HS2
            obtain ⟨Q1, y1⟩ := sum_ok (a := ⟨#[32, 32, 32, 32]⟩) (m := 4) (b := A) (Nat.le_refl 4) hA10 (by decide)
            obtain ⟨Q2, y2⟩ := sum_ok (b := ⟨#[32]⟩) (n := 1) y1 (Nat.le_refl 1) (by decide)
            obtain ⟨Q3, y3⟩ := sum_ok (b := C) y2 hC10 (by decide)
            obtain ⟨Q4, y4⟩ := sum_ok (b := ⟨#[32]⟩) (n := 1) y3 (Nat.le_refl 1) (by decide)
            obtain ⟨Q5, y5⟩ := sum_ok (b := r.name) y4 hn20 (by decide)
            obtain ⟨Q6, y6⟩ := sum_ok (b := ⟨#[10]⟩) (n := 1) y5 (Nat.le_refl 1) (by decide)
            have hfin : Hid (bs ([32, 32] ++ fxWords x ++ [10] ++ (x.rs.take k).flatMap fxRng) ++ (⟨#[32, 32, 32, 32]⟩ ++ A ++ ⟨#[32]⟩ ++ C ++ ⟨#[32]⟩ ++ r.name ++ ⟨#[10]⟩) = bs ([32, 32] ++ fxWords x ++ [10] ++ (x.rs.take (k + 1)).flatMap fxRng)) := by
              have h1 : (⟨#[32, 32, 32, 32]⟩ ++ A ++ ⟨#[32]⟩ ++ C ++ ⟨#[32]⟩ ++ r.name ++ ⟨#[10]⟩ : ByteArray).data.toList = fxRng r := by
                rw [app_list, app_list, app_list, app_list, app_list, app_list, hA, hC, bs_list, bs_list]; rfl
              show _ = _
              refine bs_eq ?_
              rw [app_list, bs_list, h1, hti.out]
              exact List.append_assoc _ _ _
            obtain ⟨ST, hST⟩ : ∃ ST, ST = bs ([32, 32] ++ fxWords x ++ [10] ++ (x.rs.take k).flatMap fxRng) := ⟨_, rfl⟩
            rw [← hST] at hl5 hfin
            rw [← hST]
            obtain ⟨Q7, y7⟩ := sum_ok hl5 y6 (by omega)
            clear hA hC hST hti y1 y2 y3 y4 y5 y6 y7
            go_wp2_with fail
            obtain ⟨W0, hW0⟩ : ∃ W0, W0 = wr.alloc (.cells #[.int .i64 r.lo, .int .i64 r.hi, .string r.name] 67) := ⟨_, rfl⟩
            have b0 : Bl wr W0 := by rw [hW0]; exact (Bl.refl wr).alloc _
            have e0 : W0.cell? ⟨wr.heap.size, 0, none⟩ = some (.int .i64 r.lo) := by rw [hW0]; simp
            have e1 : W0.cell? ⟨wr.heap.size, 1, none⟩ = some (.int .i64 r.hi) := by rw [hW0]; simp
            have e2 : W0.cell? ⟨wr.heap.size, 2, none⟩ = some (.string r.name) := by rw [hW0]; simp
            rw [← hW0]
            clear hW0 c0 c1 c2
            have f0 := e0
            have f1 := e1
            have f2 := e2
            have hB0 : Bl w W0 := HB.out.trans b0
            go_region_held3 (fun w' => w'.cell? ⟨wr.heap.size, 0, none⟩ = some (.int .i64 r.lo) ∧ w'.cell? ⟨wr.heap.size, 1, none⟩ = some (.int .i64 r.hi) ∧ w'.cell? ⟨wr.heap.size, 2, none⟩ = some (.string r.name))
              (refine ⟨Bl.cell (w := W0) ?_ f0, Bl.cell (w := W0) ?_ f1, Bl.cell (w := W0) ?_ f2⟩ <;> (((repeat (first | with_reducible exact Bl.refl _ | with_reducible assumption | with_reducible refine Bl.drew ?_ | with_reducible refine Bl.alloc ?_ _ | with_reducible refine Bl.trans ?_ (by assumption))); done); done))
              (first
                | (go_at_call 63; (with_reducible refine (HS1.out _ (hB0.trans ?_)).mono ?_); (focus ((repeat (first | with_reducible exact Bl.refl _ | with_reducible assumption | with_reducible refine Bl.drew ?_ | with_reducible refine Bl.alloc ?_ _ | with_reducible refine Bl.trans ?_ (by assumption))); done)); rintro e' w6 ⟨rfl, m6⟩)
                | (go_at_call 63; (with_reducible refine (HS2.out _ (hB0.trans ?_)).mono ?_); (focus ((repeat (first | with_reducible exact Bl.refl _ | with_reducible assumption | with_reducible refine Bl.drew ?_ | with_reducible refine Bl.alloc ?_ _ | with_reducible refine Bl.trans ?_ (by assumption))); done)); rintro e' w7 ⟨rfl, m7⟩))
            all_goals
              go_wp2
              refine ⟨⟨k + 1, by omega, by congr 1, by rw [hfin.out], hB0.trans (by ((repeat (first | with_reducible exact Bl.refl _ | with_reducible assumption | with_reducible refine Bl.drew ?_ | with_reducible refine Bl.alloc ?_ _ | with_reducible refine Bl.trans ?_ (by assumption))); done))⟩, by simp [intOf]; omega⟩
          · obtain rfl : k = x.rs.length := by omega
            have hR : Hid (bs ([32, 32] ++ fxWords x ++ [10] ++ (x.rs.take x.rs.length).flatMap fxRng) = bs (fxPar x)) := by show _ = _; rw [List.take_length]; rfl
            obtain ⟨ZZ, hZZ⟩ : ∃ ZZ, ZZ = bs ([32, 32] ++ fxWords x ++ [10] ++ (x.rs.take x.rs.length).flatMap fxRng) := ⟨_, rfl⟩
            have HZZ : Hid (ZZ = bs (fxPar x)) := hZZ.trans hR.out
            rw [← hZZ]
            clear hR hZZ
            go_wp2
            go_ret
            exact ⟨by rw [← HZZ.out]; rfl, HB.out⟩
    · cases hs : x.snap with
      | false =>
        have hf' : (x.fine != 0) = true := by simpa using hf
        obtain ⟨R7, q7⟩ := sum_ok (a := T) (b := ⟨#[32, 102, 105, 110, 101, 32]⟩ ++ Fa) q4 q5 (by decide)
        have hd' : (x.dflt != 0) = true := by simpa using hd
        obtain ⟨R8, q8⟩ := sum_ok (a := T ++ (⟨#[32, 102, 105, 110, 101, 32]⟩ ++ Fa)) (b := ⟨#[32, 100, 101, 102, 97, 117, 108, 116, 32]⟩ ++ La) q7 q6 (by decide)
        obtain ⟨Rz, qz⟩ := sum_ok (a := T ++ (⟨#[32, 102, 105, 110, 101, 32]⟩ ++ Fa) ++ (⟨#[32, 100, 101, 102, 97, 117, 108, 116, 32]⟩ ++ La)) (b := ⟨#[10]⟩) (n := 1) q8 (Nat.le_refl 1) (by decide)
        have hV : Hid (T ++ (⟨#[32, 102, 105, 110, 101, 32]⟩ ++ Fa) ++ (⟨#[32, 100, 101, 102, 97, 117, 108, 116, 32]⟩ ++ La) ++ ⟨#[10]⟩ = bs ([32, 32] ++ fxWords x ++ [10])) := by
          show _ = _
          rw [← HX.out ([32, 102, 105, 110, 101, 32] ++ decDigits x.fine.toNat) ([32, 100, 101, 102, 97, 117, 108, 116, 32] ++ lvShow x.dflt) ([]) (by unfold fxFine; rw [if_neg hf]) (by unfold fxDflt; rw [if_neg hd]) (by rw [hs]; rfl)]
          refine bs_eq ?_
          simp only [app_list, hT.out, HFa.out, HLa.out, bs_list, List.append_assoc, List.append_nil]
          try rfl
        clear hT HX hf hd
        rw [hs] at k5
        go_wp2_with (first
          | (go_at_call 27; (with_reducible refine (HI2.out _ B6.out).mono ?_); rintro e' w7 ⟨rfl, m7⟩; have B7 := Lib.hid (B6.out.trans m7); clear k0 k1 k2 k3 k4 k5 k6; obtain ⟨k0, k1, k2, k3, k4, k5, k6⟩ := HC.out _ B7.out; simp only [Nat.zero_add] at k1 k2 k3 k4 k5 k6; rw [hs] at k5)
          | (go_at_call 63; (with_reducible refine (HSh.out _ B7.out).mono ?_); rintro e' w8 ⟨rfl, m8⟩; have B8 := Lib.hid (B7.out.trans m8); clear k0 k1 k2 k3 k4 k5 k6; obtain ⟨k0, k1, k2, k3, k4, k5, k6⟩ := HC.out _ B8.out; simp only [Nat.zero_add] at k1 k2 k3 k4 k5 k6; rw [hs] at k5))
        have BZ := Lib.hid (bW.trans B8.out)
        generalize T ++ (⟨#[32, 102, 105, 110, 101, 32]⟩ ++ Fa) ++ (⟨#[32, 100, 101, 102, 97, 117, 108, 116, 32]⟩ ++ La) ++ ⟨#[10]⟩ = Z at *
        go_loopw [3, 48] (fun vs vi wr => ∃ k : Nat, k ≤ x.rs.length ∧ vi = .int .i64 k ∧ vs = .string (bs ([32, 32] ++ fxWords x ++ [10] ++ (x.rs.take k).flatMap fxRng)) ∧ Hid (Bl w wr)) (fun _ vi _ => x.rs.length - (intOf vi).toNat)
        case atStart => exact ⟨0, Nat.zero_le _, rfl, (by rw [hV.out]; simp), BZ.out⟩
        case round =>
          obtain ⟨k, hk, rfl, rfl, HB⟩ := hrel
          rename World => wr
          by_cases hlt : k < x.rs.length
          · obtain ⟨o', c', ev, _, hp'⟩ := HRv.out
            obtain ⟨rfl, rfl⟩ : o = o' ∧ c = c' := by cases ev; exact ⟨rfl, rfl⟩
            clear ev
            obtain ⟨br, offr, rfl, hLr⟩ := hp' (by omega)
            clear hp'
            obtain ⟨c0, c1, c2⟩ := (hLr k hlt).bl HB.out
            have hti := Lib.hid (flat_take fxRng x.rs k hlt)
            have hgr := HGR.out x.rs[k] (List.getElem_mem hlt)
            have hl5 : (bs ([32, 32] ++ fxWords x ++ [10] ++ (x.rs.take k).flatMap fxRng)).size ≤ 5000 := by
              have h1 := len_take fxRng 60 30 x.rs k (fun r hr => fxRng_len (HGR.out r hr)) hrs30
              have h2 := hw90
              rw [bs_size]; simp only [List.length_append, List.length_cons, List.length_nil]; omega
            obtain ⟨r, hr⟩ : ∃ r, r = x.rs[k] := ⟨_, rfl⟩
            rw [← hr] at hti c0 c1 c2 hgr
            clear hr hLr
            obtain ⟨⟨r0, r1, r2⟩, rn⟩ := hgr
            have i1 : (k : Int) < (x.rs.length : Int) := by omega
            have hn20 : r.name.size ≤ 20 := by rw [← lst_len]; exact isNm_len rn
            have hA10 : (bs (lvShow r.lo)).size ≤ 10 := by rw [bs_size]; exact lvShow_l10 r0 (by omega)
            have hC10 : (bs (lvShow r.hi)).size ≤ 10 := by rw [bs_size]; exact lvShow_l10 (by omega) r2
            have HS1 := Lib.hid (fun w' (m : Bl w w') => showR_fx r.lo w' r0 (by omega) (HPW.out w' m))
            have HS2 := Lib.hid (fun w' (m : Bl w w') => showR_fx r.hi w' (by omega) r2 (HPW.out w' m))
            obtain ⟨A, hA⟩ : ∃ D, D = bs (lvShow r.lo) := ⟨_, rfl⟩
            obtain ⟨C, hC⟩ : ∃ D, D = bs (lvShow r.hi) := ⟨_, rfl⟩
            rw [← hA] at hA10 HS1
            rw [← hC] at hC10 HS2
            obtain ⟨Q1, y1⟩ := sum_ok (a := ⟨#[32, 32, 32, 32]⟩) (m := 4) (b := A) (Nat.le_refl 4) hA10 (by decide)
            obtain ⟨Q2, y2⟩ := sum_ok (b := ⟨#[32]⟩) (n := 1) y1 (Nat.le_refl 1) (by decide)
            obtain ⟨Q3, y3⟩ := sum_ok (b := C) y2 hC10 (by decide)
            obtain ⟨Q4, y4⟩ := sum_ok (b := ⟨#[32]⟩) (n := 1) y3 (Nat.le_refl 1) (by decide)
            obtain ⟨Q5, y5⟩ := sum_ok (b := r.name) y4 hn20 (by decide)
            obtain ⟨Q6, y6⟩ := sum_ok (b := ⟨#[10]⟩) (n := 1) y5 (Nat.le_refl 1) (by decide)
            have hfin : Hid (bs ([32, 32] ++ fxWords x ++ [10] ++ (x.rs.take k).flatMap fxRng) ++ (⟨#[32, 32, 32, 32]⟩ ++ A ++ ⟨#[32]⟩ ++ C ++ ⟨#[32]⟩ ++ r.name ++ ⟨#[10]⟩) = bs ([32, 32] ++ fxWords x ++ [10] ++ (x.rs.take (k + 1)).flatMap fxRng)) := by
              have h1 : (⟨#[32, 32, 32, 32]⟩ ++ A ++ ⟨#[32]⟩ ++ C ++ ⟨#[32]⟩ ++ r.name ++ ⟨#[10]⟩ : ByteArray).data.toList = fxRng r := by
                rw [app_list, app_list, app_list, app_list, app_list, app_list, hA, hC, bs_list, bs_list]; rfl
              show _ = _
              refine bs_eq ?_
              rw [app_list, bs_list, h1, hti.out]
              exact List.append_assoc _ _ _
            obtain ⟨ST, hST⟩ : ∃ ST, ST = bs ([32, 32] ++ fxWords x ++ [10] ++ (x.rs.take k).flatMap fxRng) := ⟨_, rfl⟩
            rw [← hST] at hl5 hfin
            rw [← hST]
            obtain ⟨Q7, y7⟩ := sum_ok hl5 y6 (by omega)
            clear hA hC hST hti y1 y2 y3 y4 y5 y6 y7
            go_wp2_with fail
            obtain ⟨W0, hW0⟩ : ∃ W0, W0 = wr.alloc (.cells #[.int .i64 r.lo, .int .i64 r.hi, .string r.name] 67) := ⟨_, rfl⟩
            have b0 : Bl wr W0 := by rw [hW0]; exact (Bl.refl wr).alloc _
            have e0 : W0.cell? ⟨wr.heap.size, 0, none⟩ = some (.int .i64 r.lo) := by rw [hW0]; simp
            have e1 : W0.cell? ⟨wr.heap.size, 1, none⟩ = some (.int .i64 r.hi) := by rw [hW0]; simp
            have e2 : W0.cell? ⟨wr.heap.size, 2, none⟩ = some (.string r.name) := by rw [hW0]; simp
            rw [← hW0]
            clear hW0 c0 c1 c2
            have f0 := e0
            have f1 := e1
            have f2 := e2
            have hB0 : Bl w W0 := HB.out.trans b0
            go_region_held3 (fun w' => w'.cell? ⟨wr.heap.size, 0, none⟩ = some (.int .i64 r.lo) ∧ w'.cell? ⟨wr.heap.size, 1, none⟩ = some (.int .i64 r.hi) ∧ w'.cell? ⟨wr.heap.size, 2, none⟩ = some (.string r.name))
              (refine ⟨Bl.cell (w := W0) ?_ f0, Bl.cell (w := W0) ?_ f1, Bl.cell (w := W0) ?_ f2⟩ <;> (((repeat (first | with_reducible exact Bl.refl _ | with_reducible assumption | with_reducible refine Bl.drew ?_ | with_reducible refine Bl.alloc ?_ _ | with_reducible refine Bl.trans ?_ (by assumption))); done); done))
              (first
                | (go_at_call 63; (with_reducible refine (HS1.out _ (hB0.trans ?_)).mono ?_); (focus ((repeat (first | with_reducible exact Bl.refl _ | with_reducible assumption | with_reducible refine Bl.drew ?_ | with_reducible refine Bl.alloc ?_ _ | with_reducible refine Bl.trans ?_ (by assumption))); done)); rintro e' w6 ⟨rfl, m6⟩)
                | (go_at_call 63; (with_reducible refine (HS2.out _ (hB0.trans ?_)).mono ?_); (focus ((repeat (first | with_reducible exact Bl.refl _ | with_reducible assumption | with_reducible refine Bl.drew ?_ | with_reducible refine Bl.alloc ?_ _ | with_reducible refine Bl.trans ?_ (by assumption))); done)); rintro e' w7 ⟨rfl, m7⟩))
            all_goals
              go_wp2
              refine ⟨⟨k + 1, by omega, by congr 1, by rw [hfin.out], hB0.trans (by ((repeat (first | with_reducible exact Bl.refl _ | with_reducible assumption | with_reducible refine Bl.drew ?_ | with_reducible refine Bl.alloc ?_ _ | with_reducible refine Bl.trans ?_ (by assumption))); done))⟩, by simp [intOf]; omega⟩
          · obtain rfl : k = x.rs.length := by omega
            have hR : Hid (bs ([32, 32] ++ fxWords x ++ [10] ++ (x.rs.take x.rs.length).flatMap fxRng) = bs (fxPar x)) := by show _ = _; rw [List.take_length]; rfl
            obtain ⟨ZZ, hZZ⟩ : ∃ ZZ, ZZ = bs ([32, 32] ++ fxWords x ++ [10] ++ (x.rs.take x.rs.length).flatMap fxRng) := ⟨_, rfl⟩
            have HZZ : Hid (ZZ = bs (fxPar x)) := hZZ.trans hR.out
            rw [← hZZ]
            clear hR hZZ
            go_wp2
            go_ret
            exact ⟨by rw [← HZZ.out]; rfl, HB.out⟩
      | true =>
        have hf' : (x.fine != 0) = true := by simpa using hf
        obtain ⟨R7, q7⟩ := sum_ok (a := T) (b := ⟨#[32, 102, 105, 110, 101, 32]⟩ ++ Fa) q4 q5 (by decide)
        have hd' : (x.dflt != 0) = true := by simpa using hd
        obtain ⟨R8, q8⟩ := sum_ok (a := T ++ (⟨#[32, 102, 105, 110, 101, 32]⟩ ++ Fa)) (b := ⟨#[32, 100, 101, 102, 97, 117, 108, 116, 32]⟩ ++ La) q7 q6 (by decide)
        obtain ⟨R9, q9⟩ := sum_ok (a := T ++ (⟨#[32, 102, 105, 110, 101, 32]⟩ ++ Fa) ++ (⟨#[32, 100, 101, 102, 97, 117, 108, 116, 32]⟩ ++ La)) (b := ⟨#[32, 115, 110, 97, 112]⟩) (n := 5) q8 (Nat.le_refl 5) (by decide)
        obtain ⟨Rz, qz⟩ := sum_ok (a := T ++ (⟨#[32, 102, 105, 110, 101, 32]⟩ ++ Fa) ++ (⟨#[32, 100, 101, 102, 97, 117, 108, 116, 32]⟩ ++ La) ++ ⟨#[32, 115, 110, 97, 112]⟩) (b := ⟨#[10]⟩) (n := 1) q9 (Nat.le_refl 1) (by decide)
        have hV : Hid (T ++ (⟨#[32, 102, 105, 110, 101, 32]⟩ ++ Fa) ++ (⟨#[32, 100, 101, 102, 97, 117, 108, 116, 32]⟩ ++ La) ++ ⟨#[32, 115, 110, 97, 112]⟩ ++ ⟨#[10]⟩ = bs ([32, 32] ++ fxWords x ++ [10])) := by
          show _ = _
          rw [← HX.out ([32, 102, 105, 110, 101, 32] ++ decDigits x.fine.toNat) ([32, 100, 101, 102, 97, 117, 108, 116, 32] ++ lvShow x.dflt) ([32, 115, 110, 97, 112]) (by unfold fxFine; rw [if_neg hf]) (by unfold fxDflt; rw [if_neg hd]) (by rw [hs]; rfl)]
          refine bs_eq ?_
          simp only [app_list, hT.out, HFa.out, HLa.out, bs_list, List.append_assoc]
          try rfl
        clear hT HX hf hd
        rw [hs] at k5
        go_wp2_with (first
          | (go_at_call 27; (with_reducible refine (HI2.out _ B6.out).mono ?_); rintro e' w7 ⟨rfl, m7⟩; have B7 := Lib.hid (B6.out.trans m7); clear k0 k1 k2 k3 k4 k5 k6; obtain ⟨k0, k1, k2, k3, k4, k5, k6⟩ := HC.out _ B7.out; simp only [Nat.zero_add] at k1 k2 k3 k4 k5 k6; rw [hs] at k5)
          | (go_at_call 63; (with_reducible refine (HSh.out _ B7.out).mono ?_); rintro e' w8 ⟨rfl, m8⟩; have B8 := Lib.hid (B7.out.trans m8); clear k0 k1 k2 k3 k4 k5 k6; obtain ⟨k0, k1, k2, k3, k4, k5, k6⟩ := HC.out _ B8.out; simp only [Nat.zero_add] at k1 k2 k3 k4 k5 k6; rw [hs] at k5))
        have BZ := Lib.hid (bW.trans B8.out)
        generalize T ++ (⟨#[32, 102, 105, 110, 101, 32]⟩ ++ Fa) ++ (⟨#[32, 100, 101, 102, 97, 117, 108, 116, 32]⟩ ++ La) ++ ⟨#[32, 115, 110, 97, 112]⟩ ++ ⟨#[10]⟩ = Z at *
        go_loopw [3, 48] (fun vs vi wr => ∃ k : Nat, k ≤ x.rs.length ∧ vi = .int .i64 k ∧ vs = .string (bs ([32, 32] ++ fxWords x ++ [10] ++ (x.rs.take k).flatMap fxRng)) ∧ Hid (Bl w wr)) (fun _ vi _ => x.rs.length - (intOf vi).toNat)
        case atStart => exact ⟨0, Nat.zero_le _, rfl, (by rw [hV.out]; simp), BZ.out⟩
        case round =>
          obtain ⟨k, hk, rfl, rfl, HB⟩ := hrel
          rename World => wr
          by_cases hlt : k < x.rs.length
          · obtain ⟨o', c', ev, _, hp'⟩ := HRv.out
            obtain ⟨rfl, rfl⟩ : o = o' ∧ c = c' := by cases ev; exact ⟨rfl, rfl⟩
            clear ev
            obtain ⟨br, offr, rfl, hLr⟩ := hp' (by omega)
            clear hp'
            obtain ⟨c0, c1, c2⟩ := (hLr k hlt).bl HB.out
            have hti := Lib.hid (flat_take fxRng x.rs k hlt)
            have hgr := HGR.out x.rs[k] (List.getElem_mem hlt)
            have hl5 : (bs ([32, 32] ++ fxWords x ++ [10] ++ (x.rs.take k).flatMap fxRng)).size ≤ 5000 := by
              have h1 := len_take fxRng 60 30 x.rs k (fun r hr => fxRng_len (HGR.out r hr)) hrs30
              have h2 := hw90
              rw [bs_size]; simp only [List.length_append, List.length_cons, List.length_nil]; omega
            obtain ⟨r, hr⟩ : ∃ r, r = x.rs[k] := ⟨_, rfl⟩
            rw [← hr] at hti c0 c1 c2 hgr
            clear hr hLr
            obtain ⟨⟨r0, r1, r2⟩, rn⟩ := hgr
            have i1 : (k : Int) < (x.rs.length : Int) := by omega
            have hn20 : r.name.size ≤ 20 := by rw [← lst_len]; exact isNm_len rn
            have hA10 : (bs (lvShow r.lo)).size ≤ 10 := by rw [bs_size]; exact lvShow_l10 r0 (by omega)
            have hC10 : (bs (lvShow r.hi)).size ≤ 10 := by rw [bs_size]; exact lvShow_l10 (by omega) r2
            have HS1 := Lib.hid (fun w' (m : Bl w w') => showR_fx r.lo w' r0 (by omega) (HPW.out w' m))
            have HS2 := Lib.hid (fun w' (m : Bl w w') => showR_fx r.hi w' (by omega) r2 (HPW.out w' m))
            obtain ⟨A, hA⟩ : ∃ D, D = bs (lvShow r.lo) := ⟨_, rfl⟩
            obtain ⟨C, hC⟩ : ∃ D, D = bs (lvShow r.hi) := ⟨_, rfl⟩
            rw [← hA] at hA10 HS1
            rw [← hC] at hC10 HS2
            obtain ⟨Q1, y1⟩ := sum_ok (a := ⟨#[32, 32, 32, 32]⟩) (m := 4) (b := A) (Nat.le_refl 4) hA10 (by decide)
            obtain ⟨Q2, y2⟩ := sum_ok (b := ⟨#[32]⟩) (n := 1) y1 (Nat.le_refl 1) (by decide)
            obtain ⟨Q3, y3⟩ := sum_ok (b := C) y2 hC10 (by decide)
            obtain ⟨Q4, y4⟩ := sum_ok (b := ⟨#[32]⟩) (n := 1) y3 (Nat.le_refl 1) (by decide)
            obtain ⟨Q5, y5⟩ := sum_ok (b := r.name) y4 hn20 (by decide)
            obtain ⟨Q6, y6⟩ := sum_ok (b := ⟨#[10]⟩) (n := 1) y5 (Nat.le_refl 1) (by decide)
            have hfin : Hid (bs ([32, 32] ++ fxWords x ++ [10] ++ (x.rs.take k).flatMap fxRng) ++ (⟨#[32, 32, 32, 32]⟩ ++ A ++ ⟨#[32]⟩ ++ C ++ ⟨#[32]⟩ ++ r.name ++ ⟨#[10]⟩) = bs ([32, 32] ++ fxWords x ++ [10] ++ (x.rs.take (k + 1)).flatMap fxRng)) := by
              have h1 : (⟨#[32, 32, 32, 32]⟩ ++ A ++ ⟨#[32]⟩ ++ C ++ ⟨#[32]⟩ ++ r.name ++ ⟨#[10]⟩ : ByteArray).data.toList = fxRng r := by
                rw [app_list, app_list, app_list, app_list, app_list, app_list, hA, hC, bs_list, bs_list]; rfl
              show _ = _
              refine bs_eq ?_
              rw [app_list, bs_list, h1, hti.out]
              exact List.append_assoc _ _ _
            obtain ⟨ST, hST⟩ : ∃ ST, ST = bs ([32, 32] ++ fxWords x ++ [10] ++ (x.rs.take k).flatMap fxRng) := ⟨_, rfl⟩
            rw [← hST] at hl5 hfin
            rw [← hST]
            obtain ⟨Q7, y7⟩ := sum_ok hl5 y6 (by omega)
            clear hA hC hST hti y1 y2 y3 y4 y5 y6 y7
            go_wp2_with fail
            obtain ⟨W0, hW0⟩ : ∃ W0, W0 = wr.alloc (.cells #[.int .i64 r.lo, .int .i64 r.hi, .string r.name] 67) := ⟨_, rfl⟩
            have b0 : Bl wr W0 := by rw [hW0]; exact (Bl.refl wr).alloc _
            have e0 : W0.cell? ⟨wr.heap.size, 0, none⟩ = some (.int .i64 r.lo) := by rw [hW0]; simp
            have e1 : W0.cell? ⟨wr.heap.size, 1, none⟩ = some (.int .i64 r.hi) := by rw [hW0]; simp
            have e2 : W0.cell? ⟨wr.heap.size, 2, none⟩ = some (.string r.name) := by rw [hW0]; simp
            rw [← hW0]
            clear hW0 c0 c1 c2
            have f0 := e0
            have f1 := e1
            have f2 := e2
            have hB0 : Bl w W0 := HB.out.trans b0
            go_region_held3 (fun w' => w'.cell? ⟨wr.heap.size, 0, none⟩ = some (.int .i64 r.lo) ∧ w'.cell? ⟨wr.heap.size, 1, none⟩ = some (.int .i64 r.hi) ∧ w'.cell? ⟨wr.heap.size, 2, none⟩ = some (.string r.name))
              (refine ⟨Bl.cell (w := W0) ?_ f0, Bl.cell (w := W0) ?_ f1, Bl.cell (w := W0) ?_ f2⟩ <;> (((repeat (first | with_reducible exact Bl.refl _ | with_reducible assumption | with_reducible refine Bl.drew ?_ | with_reducible refine Bl.alloc ?_ _ | with_reducible refine Bl.trans ?_ (by assumption))); done); done))
              (first
                | (go_at_call 63; (with_reducible refine (HS1.out _ (hB0.trans ?_)).mono ?_); (focus ((repeat (first | with_reducible exact Bl.refl _ | with_reducible assumption | with_reducible refine Bl.drew ?_ | with_reducible refine Bl.alloc ?_ _ | with_reducible refine Bl.trans ?_ (by assumption))); done)); rintro e' w6 ⟨rfl, m6⟩)
                | (go_at_call 63; (with_reducible refine (HS2.out _ (hB0.trans ?_)).mono ?_); (focus ((repeat (first | with_reducible exact Bl.refl _ | with_reducible assumption | with_reducible refine Bl.drew ?_ | with_reducible refine Bl.alloc ?_ _ | with_reducible refine Bl.trans ?_ (by assumption))); done)); rintro e' w7 ⟨rfl, m7⟩))
            all_goals
              go_wp2
              refine ⟨⟨k + 1, by omega, by congr 1, by rw [hfin.out], hB0.trans (by ((repeat (first | with_reducible exact Bl.refl _ | with_reducible assumption | with_reducible refine Bl.drew ?_ | with_reducible refine Bl.alloc ?_ _ | with_reducible refine Bl.trans ?_ (by assumption))); done))⟩, by simp [intOf]; omega⟩
          · obtain rfl : k = x.rs.length := by omega
            have hR : Hid (bs ([32, 32] ++ fxWords x ++ [10] ++ (x.rs.take x.rs.length).flatMap fxRng) = bs (fxPar x)) := by show _ = _; rw [List.take_length]; rfl
            obtain ⟨ZZ, hZZ⟩ : ∃ ZZ, ZZ = bs ([32, 32] ++ fxWords x ++ [10] ++ (x.rs.take x.rs.length).flatMap fxRng) := ⟨_, rfl⟩
            have HZZ : Hid (ZZ = bs (fxPar x)) := hZZ.trans hR.out
            rw [← hZZ]
            clear hR hZZ
            go_wp2
            go_ret
            exact ⟨by rw [← HZZ.out]; rfl, HB.out⟩
end Go.Proofs.YtcidldomnifdeaaDoor

/- Text of a library, as the reference writes it. -/
namespace Go.Proofs.YtcidldomnifdeaaDoor
open Go.RowKit Go.Sort Go.Lib

set_option maxRecDepth 100000 in
set_option maxHeartbeats 12800000 in
theorem textR_loop (v : Value) (L : List Prof) (w : World) (hv : ProfVal w v L) (hok : ∀ f ∈ L, ProfOk f) (h0 : ckLib L = 0) (hpw : PowAt w) :
    Calls Tryd.prog 7 #[v] w fun e w' => e = .returned (.tuple #[.string (bs (fxR L)), .int .i64 (fxX L)]) ∧ Bl w w' := by
  have HCk := Lib.hid (checkLibrary_ref v L w hv hok)
  rw [h0] at HCk
  obtain ⟨hl60, hgood⟩ := ckLib_good h0
  have HV := Lib.hid hv
  have HG := Lib.hid hgood
  have HPW := Lib.hid (fun w' (m : Bl w w') => hpw.bl m)
  obtain ⟨o, cap, rfl, _, _⟩ := hv
  have t60 : (L.length : Int) ≤ 60 := by omega
  clear hgood hpw hok
  go_enter Tryd.func7, Tryd.ntmps7
  go_wp2_with (go_at_call 9; refine HCk.out.mono ?_; rintro e w1 ⟨rfl, m1⟩)
  have M1 := Lib.hid m1
  have z1 : w.heap.size ≤ w1.heap.size := m1.size
  clear m1
  go_loopw [17] (fun vi wr => ∃ (k : Nat) (p v : Value), k ≤ L.length ∧ vi = .int .i64 k ∧ Hid (BldV w1.heap.size w1.heap.size p v ((L.take k).flatMap fxProf) wr) ∧ Hid (Bl w wr)) (fun vi _ => L.length - (intOf vi).toNat)
  case atStart => exact ⟨0, _, _, Nat.zero_le _, rfl, BldV.new w1, M1.out.alloc _⟩
  case round =>
    obtain ⟨k, p, v, hk, rfl, HBD, HB⟩ := hrel
    rename World => wr
    by_cases hlt : k < L.length
    · obtain ⟨o', c', ev, _, hp'⟩ := HV.out
      obtain ⟨rfl, rfl⟩ : o = o' ∧ cap = c' := by cases ev; exact ⟨rfl, rfl⟩
      clear ev
      obtain ⟨b, off, rfl, hL⟩ := hp' (by omega)
      clear hp'
      obtain ⟨vp, hcel, hpv⟩ := hL k hlt
      obtain ⟨c0, c1, c2⟩ := hcel.bl HB.out
      clear hcel
      have htk := Lib.hid (flat_take fxProf L k hlt)
      have hgf := HG.out L[k] (List.getElem_mem hlt)
      have hl1 := len_take fxProf 90000 60 L k (fun f hf => fxProf_len (HG.out f hf)) (by omega)
      obtain ⟨x, hx⟩ : ∃ x, x = L[k] := ⟨_, rfl⟩
      rw [← hx] at htk c0 c1 hgf hpv
      clear hx hL
      obtain ⟨op, cp, evp⟩ : ∃ o c, vp = .slice o x.ps.length c := by obtain ⟨o, c, e, _⟩ := hpv; exact ⟨o, c, e⟩
      subst evp
      have HPV := Lib.hid hpv
      clear hpv
      have k1 : (k : Int) < (L.length : Int) := by omega
      have hps40 := hgf.2.2.1.2
      have hhd := fxHead_len hgf
      have hpl : ∀ p ∈ x.ps, (fxPar p).length ≤ 2000 := fun p hp => fxPar_len (hgf.2.2.2 p hp) hgf.2.1.2
      have HPQ := Lib.hid hpl
      have hpl2 := fun j => len_take fxPar 2000 40 x.ps j hpl hps40
      have HPL := Lib.hid hpl2
      have HGP := Lib.hid hgf.2.2.2
      have h512 := hgf.2.1.2
      have hn20 : x.name.size ≤ 20 := by rw [← lst_len]; exact isNm_len hgf.1
      have hD5 : (bs (decDigits x.size.toNat)).size ≤ 5 := by rw [bs_size]; exact dd5 (by have := hgf.2.1.1; omega) (by omega)
      have HI := Lib.hid (fun w' (m : Bl w w') => itoa_bl x.size w' (by have := hgf.2.1.1; omega) (by omega) (HPW.out w' m))
      clear hgf hpl hpl2
      obtain ⟨l1, hl1e⟩ : ∃ l, l = (L.take k).flatMap fxProf := ⟨_, rfl⟩
      rw [← hl1e] at HBD htk hl1
      clear hl1e
      obtain ⟨D, hD⟩ : ∃ D, D = bs (decDigits x.size.toNat) := ⟨_, rfl⟩
      rw [← hD] at hD5 HI
      obtain ⟨R1, q1⟩ := sum_ok (a := ⟨#[112, 114, 111, 102, 105, 108, 101, 32]⟩) (m := 8) (b := x.name) (Nat.le_refl 8) hn20 (by decide)
      obtain ⟨R2, q2⟩ := sum_ok (b := ⟨#[32]⟩) (n := 1) q1 (Nat.le_refl 1) (by decide)
      obtain ⟨R3, q3⟩ := sum_ok (b := D) q2 hD5 (by decide)
      obtain ⟨R4, q4⟩ := sum_ok (b := ⟨#[10]⟩) (n := 1) q3 (Nat.le_refl 1) (by decide)
      have hline : (⟨#[112, 114, 111, 102, 105, 108, 101, 32]⟩ ++ x.name ++ ⟨#[32]⟩ ++ D ++ ⟨#[10]⟩ : ByteArray).data.toList = fxHead x := by
        rw [app_list, app_list, app_list, app_list, hD, bs_list]; rfl
      have HW := Lib.hid (fun w' (m : Bl wr w') => write_any w1.heap.size w1.heap.size p v l1 (⟨#[112, 114, 111, 102, 105, 108, 101, 32]⟩ ++ x.name ++ ⟨#[32]⟩ ++ D ++ ⟨#[10]⟩) w' (HBD.out.bl m) (wr_len (by omega) (by omega)) (Nat.le_trans (Nat.le_of_lt HBD.out.lt) m.size))
      rw [hline] at HW
      have hwlt := HBD.out.lt
      have hvlt := Lib.hid (fun q (h : v.ownBlock = some q) => (HBD.out.row_lt q h).2)
      clear hD hline HBD
      go_wp2_with fail
      obtain ⟨W0, hW0⟩ : ∃ W0, W0 = wr.alloc (.cells #[.string x.name, .int .i64 x.size, .slice op x.ps.length cp] 29) := ⟨_, rfl⟩
      have b0 : Bl wr W0 := by rw [hW0]; exact (Bl.refl wr).alloc _
      have hsz0 : wr.heap.size < W0.heap.size := by rw [hW0]; simp
      have e0 : W0.cell? ⟨wr.heap.size, 0, none⟩ = some (.string x.name) := by rw [hW0]; simp
      have e1 : W0.cell? ⟨wr.heap.size, 1, none⟩ = some (.int .i64 x.size) := by rw [hW0]; simp
      have e2 : W0.cell? ⟨wr.heap.size, 2, none⟩ = some (.slice op x.ps.length cp) := by rw [hW0]; simp
      rw [← hW0]
      clear hW0 c0 c1 c2
      have hnb : wr.heap.size ≠ w1.heap.size := by omega
      have hnv : v.ownBlock ≠ some wr.heap.size := fun h => Nat.lt_irrefl _ (hvlt.out _ h)
      have f0 := e0
      have f1 := e1
      have f2 := e2
      have hB0 : Bl w W0 := HB.out.trans b0
      go_region_held3 (fun w' => w'.cell? ⟨wr.heap.size, 0, none⟩ = some (.string x.name) ∧ w'.cell? ⟨wr.heap.size, 1, none⟩ = some (.int .i64 x.size) ∧ w'.cell? ⟨wr.heap.size, 2, none⟩ = some (.slice op x.ps.length cp))
        (first
          | (refine ⟨Bl.cell (w := W0) ?_ f0, Bl.cell (w := W0) ?_ f1, Bl.cell (w := W0) ?_ f2⟩ <;> (((repeat (first | with_reducible exact Bl.refl _ | with_reducible assumption | with_reducible refine Bl.drew ?_ | with_reducible refine Bl.alloc ?_ _ | with_reducible refine Bl.trans ?_ (by assumption))); done); done))
          | (refine ⟨Bl.cell (w := w8) ?_ x0, Bl.cell (w := w8) ?_ x1, Bl.cell (w := w8) ?_ x2⟩ <;> (((repeat (first | with_reducible exact Bl.refl _ | with_reducible assumption | with_reducible refine Bl.drew ?_ | with_reducible refine Bl.alloc ?_ _ | with_reducible refine Bl.trans ?_ (by assumption))); done); done)))
        (first
          | (go_at_call 27; (with_reducible refine (HI.out _ (hB0.trans ?_)).mono ?_); (focus ((repeat (first | with_reducible exact Bl.refl _ | with_reducible assumption | with_reducible refine Bl.drew ?_ | with_reducible refine Bl.alloc ?_ _ | with_reducible refine Bl.trans ?_ (by assumption))); done)); rintro e' w6 ⟨rfl, m6⟩)
          | (go_at_call 26; (with_reducible refine (HW.out _ (b0.trans ?_)).mono ?_); (focus ((repeat (first | with_reducible exact Bl.refl _ | with_reducible assumption | with_reducible refine Bl.drew ?_ | with_reducible refine Bl.alloc ?_ _ | with_reducible refine Bl.trans ?_ (by assumption))); done)); rintro e' w8 ⟨rfl, h8⟩; have x0 := h8.cel (by ((repeat (first | with_reducible exact Bl.refl _ | with_reducible assumption | with_reducible refine Bl.drew ?_ | with_reducible refine Bl.alloc ?_ _ | with_reducible refine Bl.trans ?_ (by assumption))); done)) hsz0 hnb hnv f0; have x1 := h8.cel (by ((repeat (first | with_reducible exact Bl.refl _ | with_reducible assumption | with_reducible refine Bl.drew ?_ | with_reducible refine Bl.alloc ?_ _ | with_reducible refine Bl.trans ?_ (by assumption))); done)) hsz0 hnb hnv f1; have x2 := h8.cel (by ((repeat (first | with_reducible exact Bl.refl _ | with_reducible assumption | with_reducible refine Bl.drew ?_ | with_reducible refine Bl.alloc ?_ _ | with_reducible refine Bl.trans ?_ (by assumption))); done)) hsz0 hnb hnv f2; have hB8 : Bl w w8 := h8.bl (hB0.trans (by ((repeat (first | with_reducible exact Bl.refl _ | with_reducible assumption | with_reducible refine Bl.drew ?_ | with_reducible refine Bl.alloc ?_ _ | with_reducible refine Bl.trans ?_ (by assumption))); done))) z1; obtain ⟨v8, hv8⟩ := h8.1; clear h8))
      have hl2 : (l1 ++ fxHead x).length ≤ 5500000 := by rw [List.length_append]; omega
      obtain ⟨l2, hl2e⟩ : ∃ l, l = l1 ++ fxHead x := ⟨_, rfl⟩
      rw [← hl2e] at hv8 hl2
      have HL2E := Lib.hid hl2e
      have HB8 := Lib.hid hB8
      have HV8 := Lib.hid hv8
      clear hl2e hB8 hv8 e0 e1 e2 f0 f1 f2 R1 R2 R3 R4 q1 q2 q3 q4 HI HW hB0 b0 x0 x1 hn20 hD5 hnb hnv hsz0 hvlt hwlt hhd hl1
      go_wp2
      clear x2
      go_loopw [34] (fun vj wi => ∃ (j : Nat) (p v : Value), j ≤ x.ps.length ∧ vj = .int .i64 j ∧ Hid (BldV w1.heap.size w1.heap.size p v (l2 ++ (x.ps.take j).flatMap fxPar) wi) ∧ Hid (Bl w wi)) (fun vj _ => x.ps.length - (intOf vj).toNat)
      case atStart => exact ⟨0, _, v8, Nat.zero_le _, rfl, (by show BldV _ _ _ _ _ _; simpa using HV8.out), HB8.out⟩
      case round =>
        obtain ⟨j, pj, vj, hj, rfl, HBD, HBi⟩ := hrel
        rename World => wi
        by_cases hjl : j < x.ps.length
        · obtain ⟨o', c', ev, _, hp'⟩ := HPV.out
          obtain ⟨rfl, rfl⟩ : op = o' ∧ cp = c' := by cases ev; exact ⟨rfl, rfl⟩
          clear ev
          obtain ⟨bp, offp, rfl, hLp⟩ := hp' (by omega)
          clear hp'
          obtain ⟨vr, hcel, hrv⟩ := hLp j hjl
          obtain ⟨c0, c1, c2, c3, c4, c5, c6⟩ := hcel.bl HBi.out
          clear hcel
          have htj := Lib.hid (flat_take fxPar x.ps j hjl)
          have hgy := HGP.out x.ps[j] (List.getElem_mem hjl)
          have hp2 := HPQ.out x.ps[j] (List.getElem_mem hjl)
          have hl3 : (l2 ++ (x.ps.take j).flatMap fxPar).length ≤ 5600000 := by have := HPL.out j; rw [List.length_append]; omega
          obtain ⟨y, hy⟩ : ∃ y, y = x.ps[j] := ⟨_, rfl⟩
          rw [← hy] at htj c0 c1 c2 c3 c4 c5 hrv hgy hp2
          clear hy hLp
          have HPT := Lib.hid (fun w' (m : Bl w w') => paramTextR_any y vr x.size w' (hrv.bl m) hgy h512 (HPW.out w' m))
          obtain ⟨orr, cr, evr⟩ : ∃ o c, vr = .slice o y.rs.length c := by obtain ⟨o, c, e, _⟩ := hrv; exact ⟨o, c, e⟩
          subst evr
          clear hrv hgy
          have j1 : (j : Int) < (x.ps.length : Int) := by omega
          obtain ⟨l3, hl3e⟩ : ∃ l, l = l2 ++ (x.ps.take j).flatMap fxPar := ⟨_, rfl⟩
          rw [← hl3e] at HBD hl3
          have HL3E := Lib.hid hl3e
          clear hl3e
          have HW := Lib.hid (fun w' (m : Bl wi w') => write_any w1.heap.size w1.heap.size pj vj l3 (bs (fxPar y)) w' (HBD.out.bl m) (by rw [bs_size]; omega) (Nat.le_trans (Nat.le_of_lt HBD.out.lt) m.size))
          rw [bs_list] at HW
          clear hp2
          obtain ⟨S, hS⟩ : ∃ S, S = bs (fxPar y) := ⟨_, rfl⟩
          rw [← hS] at HPT HW
          have hwlt := HBD.out.lt
          have hvlt := Lib.hid (fun q (h : vj.ownBlock = some q) => (HBD.out.row_lt q h).2)
          clear hS HBD
          have hnx : Hid (l3 ++ fxPar y = l2 ++ (x.ps.take (j + 1)).flatMap fxPar) := by
            show _ = _; rw [htj.out, HL3E.out, List.append_assoc]
          rw [hnx.out] at HW
          clear htj HL3E hnx
          obtain ⟨Wy, hWy⟩ : ∃ Wy, wi.alloc (.cells #[.string y.name, .int .i64 y.grp, .int .i64 y.slot, .int .i64 y.fine, .int .i64 y.dflt, .bool y.snap, .slice orr y.rs.length cr] 46) = Wy := ⟨_, rfl⟩
          have b0 : Bl wi Wy := by rw [← hWy]; exact (Bl.refl wi).alloc _
          have HCy := Lib.hid (show CelP Wy wi.heap.size 0 y (.slice orr y.rs.length cr) by rw [← hWy]; exact CelP.new _ _ _ _)
          obtain ⟨e0, e1, e2, e3, e4, e5, e6⟩ := HCy.out
          simp only [Nat.zero_add] at e1 e2 e3 e4 e5 e6
          have BWy := Lib.hid (HBi.out.trans b0)
          have B0 := Lib.hid b0
          clear b0
          go_wp2_with (first
            | (go_at_call 32; refine (HPT.out _ BWy.out).mono ?_; rintro e' w6 ⟨rfl, m6⟩)
            | (go_at_call 26; refine (HW.out _ (B0.out.trans m6)).mono ?_; rintro e' w7 ⟨rfl, h7⟩; have HB7 := Lib.hid (h7.bl (BWy.out.trans m6) z1); obtain ⟨v7, hv7⟩ := h7.1; have HV7 := Lib.hid hv7; clear h7 hv7 m6))
          go_roundw
          case rel => exact ⟨j + 1, _, _, by omega, by go_num, HV7.out, HB7.out⟩
          case measure => simp [intOf]; omega
        · obtain rfl : j = x.ps.length := by omega
          have hfin : Hid (l2 ++ (x.ps.take x.ps.length).flatMap fxPar = (L.take (k + 1)).flatMap fxProf) := by
            show _ = _; rw [List.take_length, htk.out, HL2E.out]; unfold fxProf; rw [List.append_assoc]
          clear htk HL2E
          go_wp2
          go_roundw
          case rel => exact ⟨k + 1, _, _, by omega, by go_num, (by show BldV _ _ _ _ _ _; rw [← hfin.out]; exact HBD.out), HBi.out⟩
          case measure => simp [intOf]; omega
    · obtain rfl : k = L.length := by omega
      have hall : Hid ((L.take L.length).flatMap fxProf = fxTxt L) := by show _ = _; rw [List.take_length]; rfl
      rw [hall.out] at HBD
      have HLn := Lib.hid (Tryd.Builder_Len w1.heap.size w1.heap.size (byteCells (fxTxt L)) wr HBD.out.is)
      rw [show (byteCells (fxTxt L)).length = (fxTxt L).length by simp [byteCells]] at HLn
      have HSt := Lib.hid (Tryd.Builder_String_any w1.heap.size w1.heap.size (fxTxt L) wr HBD.out.is (Nat.le_of_lt HBD.out.lt))
      rw [show (⟨(fxTxt L).toArray⟩ : ByteArray) = bs (fxTxt L) from rfl] at HSt
      by_cases h2 : 200000 < (fxTxt L).length
      · have e1 : Hid (fxR L = []) := by show _ = _; unfold fxR; rw [if_pos h0, if_pos h2]
        have e2 : Hid (fxX L = 2) := by show _ = _; unfold fxX; rw [if_pos h0, if_pos h2]
        have t2 : (200000 : Int) < ((fxTxt L).length : Int) := by omega
        clear h2 hall HBD h0 HG HV HPW HCk HSt
        generalize (fxTxt L).length = n at *
        go_wp2_with (go_at_call 33; refine HLn.out.mono ?_; rintro e w2 ⟨rfl, rfl⟩)
        go_ret2
        exact ⟨by rw [e1.out, e2.out]; rfl, HB.out⟩
      · have e1 : Hid (fxR L = fxTxt L) := by show _ = _; unfold fxR; rw [if_pos h0, if_neg h2]
        have e2 : Hid (fxX L = 0) := by show _ = _; unfold fxX; rw [if_pos h0, if_neg h2]
        have t2 : ((fxTxt L).length : Int) ≤ 200000 := by omega
        obtain ⟨S, hS⟩ : ∃ S, S = bs (fxTxt L) := ⟨_, rfl⟩
        rw [← hS] at HSt
        have HS := Lib.hid hS
        clear h2 hall HBD h0 HG HV HPW HCk hS
        generalize hn : (fxTxt L).length = n at HLn t2
        clear hn
        go_wp2_with (first
          | (go_at_call 33; refine HLn.out.mono ?_; rintro e w2 ⟨rfl, rfl⟩)
          | (go_at_call 31; refine HSt.out.mono ?_; rintro e w3 ⟨rfl, m3⟩))
        have hfin := Below.trans HB.out (Below.mono m3 z1)
        go_ret2
        exact ⟨by rw [e1.out, e2.out, ← HS.out]; rfl, hfin⟩

theorem textR_any (v : Value) (L : List Prof) (w : World) (hv : ProfVal w v L) (hok : ∀ f ∈ L, ProfOk f) (hpw : PowAt w) :
    Calls Tryd.prog 7 #[v] w fun e w' => e = .returned (.tuple #[.string (bs (fxR L)), .int .i64 (fxX L)]) ∧ Bl w w' := by
  by_cases h0 : ckLib L = 0
  · exact textR_loop v L w hv hok h0 hpw
  · have HCk := Lib.hid (checkLibrary_ref v L w hv hok)
    have e1 : Hid (fxR L = []) := by show _ = _; unfold fxR; rw [if_neg h0]
    have e2 : Hid (fxX L = ckLib L) := by show _ = _; unfold fxX; rw [if_neg h0]
    have hb : (ckLib L != 0) = true := by simpa using h0
    obtain ⟨o, cap, rfl, _, _⟩ := hv
    clear h0 hok hpw
    generalize ckLib L = X at *
    go_enter Tryd.func7, Tryd.ntmps7
    go_wp2_with (go_at_call 9; refine HCk.out.mono ?_; rintro e w1 ⟨rfl, m1⟩)
    go_returns
    exact ⟨by rw [e1.out, e2.out]; rfl, m1⟩
end Go.Proofs.YtcidldomnifdeaaDoor

/- The cells of a struct that a call is to give back, set one by one. -/
namespace Go.Proofs.YtcidldomnifdeaaDoor
theorem cel_oth (W : World) (N i j : Nat) (u : Value) (h : i ≠ j) : (W.setCell ⟨N, i, none⟩ u).cell? ⟨N, j, none⟩ = W.cell? ⟨N, j, none⟩ := World.cell?_setCell_other _ _ _ _ (by intro he; injection he with _ h2; exact h h2)
theorem stv3 {W : World} {N : Nat} {c0 c1 c2 : Value} (v0 v1 v2 : Value) (q0 : W.cell? ⟨N, 0, none⟩ = some c0) (q1 : W.cell? ⟨N, 1, none⟩ = some c1) (q2 : W.cell? ⟨N, 2, none⟩ = some c2) :
    (((W.setCell ⟨N, 0, none⟩ v0).setCell ⟨N, 1, none⟩ v1).setCell ⟨N, 2, none⟩ v2).cell? ⟨N, 0, none⟩ = some v0 ∧ (((W.setCell ⟨N, 0, none⟩ v0).setCell ⟨N, 1, none⟩ v1).setCell ⟨N, 2, none⟩ v2).cell? ⟨N, 1, none⟩ = some v1 ∧ (((W.setCell ⟨N, 0, none⟩ v0).setCell ⟨N, 1, none⟩ v1).setCell ⟨N, 2, none⟩ v2).cell? ⟨N, 2, none⟩ = some v2 := by
  refine ⟨?_, ?_, ?_⟩
  · rw [cel_oth _ _ _ _ _ (by decide), cel_oth _ _ _ _ _ (by decide)]; exact World.cell?_setCell_same (u := c0) _ _ _ (q0)
  · rw [cel_oth _ _ _ _ _ (by decide)]; exact World.cell?_setCell_same (u := c1) _ _ _ (by rw [cel_oth _ _ _ _ _ (by decide)]; exact q1)
  · exact World.cell?_setCell_same (u := c2) _ _ _ (by rw [cel_oth _ _ _ _ _ (by decide), cel_oth _ _ _ _ _ (by decide)]; exact q2)
theorem stb3 {w W : World} {N : Nat} (h : Bl w W) (hN : w.heap.size ≤ N) (v0 v1 v2 : Value) : Bl w (((W.setCell ⟨N, 0, none⟩ v0).setCell ⟨N, 1, none⟩ v1).setCell ⟨N, 2, none⟩ v2) := by
  exact (((h.setCell (p := ⟨N, 0, none⟩) hN _).setCell (p := ⟨N, 1, none⟩) hN _).setCell (p := ⟨N, 2, none⟩) hN _)
theorem ste3 {W : World} {N M j : Nat} (h : M ≠ N) (v0 v1 v2 : Value) : (((W.setCell ⟨N, 0, none⟩ v0).setCell ⟨N, 1, none⟩ v1).setCell ⟨N, 2, none⟩ v2).cell? ⟨M, j, none⟩ = W.cell? ⟨M, j, none⟩ := by
  have o : ∀ (W : World) (i : Nat) (u : Value), (W.setCell ⟨N, i, none⟩ u).cell? ⟨M, j, none⟩ = W.cell? ⟨M, j, none⟩ := fun W i u => World.cell?_setCell_other _ _ _ _ (by intro he; injection he with h1 _; exact h h1.symm)
  rw [o, o, o]
theorem stv7 {W : World} {N : Nat} {c0 c1 c2 c3 c4 c5 c6 : Value} (v0 v1 v2 v3 v4 v5 v6 : Value) (q0 : W.cell? ⟨N, 0, none⟩ = some c0) (q1 : W.cell? ⟨N, 1, none⟩ = some c1) (q2 : W.cell? ⟨N, 2, none⟩ = some c2) (q3 : W.cell? ⟨N, 3, none⟩ = some c3) (q4 : W.cell? ⟨N, 4, none⟩ = some c4) (q5 : W.cell? ⟨N, 5, none⟩ = some c5) (q6 : W.cell? ⟨N, 6, none⟩ = some c6) :
    (((((((W.setCell ⟨N, 0, none⟩ v0).setCell ⟨N, 1, none⟩ v1).setCell ⟨N, 2, none⟩ v2).setCell ⟨N, 3, none⟩ v3).setCell ⟨N, 4, none⟩ v4).setCell ⟨N, 5, none⟩ v5).setCell ⟨N, 6, none⟩ v6).cell? ⟨N, 0, none⟩ = some v0 ∧ (((((((W.setCell ⟨N, 0, none⟩ v0).setCell ⟨N, 1, none⟩ v1).setCell ⟨N, 2, none⟩ v2).setCell ⟨N, 3, none⟩ v3).setCell ⟨N, 4, none⟩ v4).setCell ⟨N, 5, none⟩ v5).setCell ⟨N, 6, none⟩ v6).cell? ⟨N, 1, none⟩ = some v1 ∧ (((((((W.setCell ⟨N, 0, none⟩ v0).setCell ⟨N, 1, none⟩ v1).setCell ⟨N, 2, none⟩ v2).setCell ⟨N, 3, none⟩ v3).setCell ⟨N, 4, none⟩ v4).setCell ⟨N, 5, none⟩ v5).setCell ⟨N, 6, none⟩ v6).cell? ⟨N, 2, none⟩ = some v2 ∧ (((((((W.setCell ⟨N, 0, none⟩ v0).setCell ⟨N, 1, none⟩ v1).setCell ⟨N, 2, none⟩ v2).setCell ⟨N, 3, none⟩ v3).setCell ⟨N, 4, none⟩ v4).setCell ⟨N, 5, none⟩ v5).setCell ⟨N, 6, none⟩ v6).cell? ⟨N, 3, none⟩ = some v3 ∧ (((((((W.setCell ⟨N, 0, none⟩ v0).setCell ⟨N, 1, none⟩ v1).setCell ⟨N, 2, none⟩ v2).setCell ⟨N, 3, none⟩ v3).setCell ⟨N, 4, none⟩ v4).setCell ⟨N, 5, none⟩ v5).setCell ⟨N, 6, none⟩ v6).cell? ⟨N, 4, none⟩ = some v4 ∧ (((((((W.setCell ⟨N, 0, none⟩ v0).setCell ⟨N, 1, none⟩ v1).setCell ⟨N, 2, none⟩ v2).setCell ⟨N, 3, none⟩ v3).setCell ⟨N, 4, none⟩ v4).setCell ⟨N, 5, none⟩ v5).setCell ⟨N, 6, none⟩ v6).cell? ⟨N, 5, none⟩ = some v5 ∧ (((((((W.setCell ⟨N, 0, none⟩ v0).setCell ⟨N, 1, none⟩ v1).setCell ⟨N, 2, none⟩ v2).setCell ⟨N, 3, none⟩ v3).setCell ⟨N, 4, none⟩ v4).setCell ⟨N, 5, none⟩ v5).setCell ⟨N, 6, none⟩ v6).cell? ⟨N, 6, none⟩ = some v6 := by
  refine ⟨?_, ?_, ?_, ?_, ?_, ?_, ?_⟩
  · rw [cel_oth _ _ _ _ _ (by decide), cel_oth _ _ _ _ _ (by decide), cel_oth _ _ _ _ _ (by decide), cel_oth _ _ _ _ _ (by decide), cel_oth _ _ _ _ _ (by decide), cel_oth _ _ _ _ _ (by decide)]; exact World.cell?_setCell_same (u := c0) _ _ _ (q0)
  · rw [cel_oth _ _ _ _ _ (by decide), cel_oth _ _ _ _ _ (by decide), cel_oth _ _ _ _ _ (by decide), cel_oth _ _ _ _ _ (by decide), cel_oth _ _ _ _ _ (by decide)]; exact World.cell?_setCell_same (u := c1) _ _ _ (by rw [cel_oth _ _ _ _ _ (by decide)]; exact q1)
  · rw [cel_oth _ _ _ _ _ (by decide), cel_oth _ _ _ _ _ (by decide), cel_oth _ _ _ _ _ (by decide), cel_oth _ _ _ _ _ (by decide)]; exact World.cell?_setCell_same (u := c2) _ _ _ (by rw [cel_oth _ _ _ _ _ (by decide), cel_oth _ _ _ _ _ (by decide)]; exact q2)
  · rw [cel_oth _ _ _ _ _ (by decide), cel_oth _ _ _ _ _ (by decide), cel_oth _ _ _ _ _ (by decide)]; exact World.cell?_setCell_same (u := c3) _ _ _ (by rw [cel_oth _ _ _ _ _ (by decide), cel_oth _ _ _ _ _ (by decide), cel_oth _ _ _ _ _ (by decide)]; exact q3)
  · rw [cel_oth _ _ _ _ _ (by decide), cel_oth _ _ _ _ _ (by decide)]; exact World.cell?_setCell_same (u := c4) _ _ _ (by rw [cel_oth _ _ _ _ _ (by decide), cel_oth _ _ _ _ _ (by decide), cel_oth _ _ _ _ _ (by decide), cel_oth _ _ _ _ _ (by decide)]; exact q4)
  · rw [cel_oth _ _ _ _ _ (by decide)]; exact World.cell?_setCell_same (u := c5) _ _ _ (by rw [cel_oth _ _ _ _ _ (by decide), cel_oth _ _ _ _ _ (by decide), cel_oth _ _ _ _ _ (by decide), cel_oth _ _ _ _ _ (by decide), cel_oth _ _ _ _ _ (by decide)]; exact q5)
  · exact World.cell?_setCell_same (u := c6) _ _ _ (by rw [cel_oth _ _ _ _ _ (by decide), cel_oth _ _ _ _ _ (by decide), cel_oth _ _ _ _ _ (by decide), cel_oth _ _ _ _ _ (by decide), cel_oth _ _ _ _ _ (by decide), cel_oth _ _ _ _ _ (by decide)]; exact q6)
theorem stb7 {w W : World} {N : Nat} (h : Bl w W) (hN : w.heap.size ≤ N) (v0 v1 v2 v3 v4 v5 v6 : Value) : Bl w (((((((W.setCell ⟨N, 0, none⟩ v0).setCell ⟨N, 1, none⟩ v1).setCell ⟨N, 2, none⟩ v2).setCell ⟨N, 3, none⟩ v3).setCell ⟨N, 4, none⟩ v4).setCell ⟨N, 5, none⟩ v5).setCell ⟨N, 6, none⟩ v6) := by
  exact (((((((h.setCell (p := ⟨N, 0, none⟩) hN _).setCell (p := ⟨N, 1, none⟩) hN _).setCell (p := ⟨N, 2, none⟩) hN _).setCell (p := ⟨N, 3, none⟩) hN _).setCell (p := ⟨N, 4, none⟩) hN _).setCell (p := ⟨N, 5, none⟩) hN _).setCell (p := ⟨N, 6, none⟩) hN _)
theorem ste7 {W : World} {N M j : Nat} (h : M ≠ N) (v0 v1 v2 v3 v4 v5 v6 : Value) : (((((((W.setCell ⟨N, 0, none⟩ v0).setCell ⟨N, 1, none⟩ v1).setCell ⟨N, 2, none⟩ v2).setCell ⟨N, 3, none⟩ v3).setCell ⟨N, 4, none⟩ v4).setCell ⟨N, 5, none⟩ v5).setCell ⟨N, 6, none⟩ v6).cell? ⟨M, j, none⟩ = W.cell? ⟨M, j, none⟩ := by
  have o : ∀ (W : World) (i : Nat) (u : Value), (W.setCell ⟨N, i, none⟩ u).cell? ⟨M, j, none⟩ = W.cell? ⟨M, j, none⟩ := fun W i u => World.cell?_setCell_other _ _ _ _ (by intro he; injection he with h1 _; exact h h1.symm)
  rw [o, o, o, o, o, o, o]
end Go.Proofs.YtcidldomnifdeaaDoor

/- paramOf and rangeOf of the program, param of the reference. -/
namespace Go.Proofs.YtcidldomnifdeaaDoor
open Go.RowKit Go.Sort

def zeroPar : Par := ⟨⟨#[]⟩, 0, 0, 0, 0, false, []⟩
def parV (p : Par) (v : Value) : Value := .agg #[.string p.name, .int .i64 p.grp, .int .i64 p.slot, .int .i64 p.fine, .int .i64 p.dflt, .bool p.snap, v]
def rngV (r : Rng) : Value := .agg #[.int .i64 r.lo, .int .i64 r.hi, .string r.name]
def fndO (L : List Par) (l : List UInt8) : Option Par := L.find? (fun p => decide (nmP p = l))
def fnd (L : List Par) (l : List UInt8) : Par := (fndO L l).getD zeroPar
def rgfO (L : List Rng) (l : List UInt8) : Option Rng := L.find? (fun r => decide (nmR r = l))
theorem find_at {α : Type} {p : α → Bool} : ∀ (L : List α) (k : Nat) (hk : k < L.length), (∀ e ∈ L.take k, p e = false) → p L[k] = true → L.find? p = some L[k]
  | a :: t, 0, _, _, h => by
    have h : p a = true := h
    rw [List.find?_cons, h]; rfl
  | a :: t, k + 1, hk, h1, h => by
    have ha : p a = false := h1 a (by simp)
    rw [List.find?_cons, ha]
    exact find_at t k (by simpa using hk) (fun e he => h1 e (by simp [he])) h
theorem fndO_at {L : List Par} {l : List UInt8} {k : Nat} (hk : k < L.length) (h1 : ∀ e ∈ L.take k, nmP e ≠ l) (h : nmP L[k] = l) : fndO L l = some L[k] :=
  find_at L k hk (fun e he => by simpa using h1 e he) (by simpa using h)
theorem fndO_none {L : List Par} {l : List UInt8} (h : ∀ e ∈ L, nmP e ≠ l) : fndO L l = none := by
  unfold fndO; rw [List.find?_eq_none]; intro e he; simpa using h e he
theorem rgfO_at {L : List Rng} {l : List UInt8} {k : Nat} (hk : k < L.length) (h1 : ∀ e ∈ L.take k, nmR e ≠ l) (h : nmR L[k] = l) : rgfO L l = some L[k] :=
  find_at L k hk (fun e he => by simpa using h1 e he) (by simpa using h)
theorem rgfO_none {L : List Rng} {l : List UInt8} (h : ∀ e ∈ L, nmR e ≠ l) : rgfO L l = none := by
  unfold rgfO; rw [List.find?_eq_none]; intro e he; simpa using h e he
theorem fnd_mem {L : List Par} {l : List UInt8} : fnd L l ∈ L ∨ fnd L l = zeroPar := by
  unfold fnd
  cases h : fndO L l with
  | none => exact .inr rfl
  | some p => exact .inl (List.mem_of_find?_eq_some h)
/-- What paramOf and param give. -/
def FndPost (L : List Par) (l : List UInt8) (w : World) (e : Ending) (w' : World) : Prop := ∃ v, e = .returned (.tuple #[parV (fnd L l) v, .bool (fndO L l).isSome]) ∧ RngVal w' v (fnd L l).rs ∧ Bl w w'

set_option maxRecDepth 100000 in
set_option maxHeartbeats 3200000 in
theorem paramOf_any (x : Prof) (vp : Value) (s : ByteArray) (w : World) (hp : ParVal w vp x.ps) :
    Calls Tryd.prog 34 #[.agg #[.string x.name, .int .i64 x.size, vp], .string s] w (FndPost x.ps s.data.toList w) := by
  obtain ⟨W0, hW0⟩ : ∃ W0, W0 = (w.alloc (.cells #[.string x.name, .int .i64 x.size, vp] 29)).alloc (.cells #[.string ⟨#[]⟩, .int .i64 0, .int .i64 0, .int .i64 0, .int .i64 0, .bool false, .slice none 0 0] 46) := ⟨_, rfl⟩
  have bW0 : Bl w W0 := by rw [hW0]; exact ((Bl.refl w).alloc _).alloc _
  have HC := Lib.hid (show ∀ w', Bl W0 w' → CelF w' w.heap.size 0 x vp from fun w' g => CelF.bl (by rw [hW0]; exact (CelF.new w _ _ _).bl ((Bl.refl _).alloc _)) g)
  have HZ := Lib.hid (show ∀ w', Bl W0 w' → CelP w' (w.heap.size + 1) 0 zeroPar (.slice none 0 0) from fun w' g => CelP.bl (by have := CelP.new (w.alloc (.cells #[.string x.name, .int .i64 x.size, vp] 29)) 46 zeroPar (.slice none 0 0); rw [World.size_alloc] at this; rw [hW0]; exact this) g)
  have z0 : w.heap.size + 1 < W0.heap.size := by rw [hW0]; simp
  have HFz := Lib.hid (show ∀ w', Bl W0 w' → ∀ j, w'.frozen? ⟨w.heap.size + 1, j, none⟩ = false from fun w' g j => by rw [g.frozen (p := ⟨w.heap.size + 1, j, none⟩) z0, hW0]; simp)
  have HPv := Lib.hid hp
  obtain ⟨o, cap, rfl, _, _⟩ := hp
  obtain ⟨d0, d1, d2⟩ := HC.out W0 (Bl.refl _)
  have hW := hW0.symm
  clear hW0
  unfold FndPost
  go_enter Tryd.func34, Tryd.ntmps34
  go_wp2
  go_loopw [11] (fun vi wr => ∃ k : Nat, k ≤ x.ps.length ∧ vi = .int .i64 k ∧ Hid (∀ e ∈ x.ps.take k, nmP e ≠ s.data.toList) ∧ Hid (Bl W0 wr)) (fun vi _ => x.ps.length - (intOf vi).toNat)
  case atStart => exact ⟨0, Nat.zero_le _, rfl, (fun e he => by simp at he), Bl.refl _⟩
  case round =>
    obtain ⟨k, hk, rfl, HJ, HB⟩ := hrel
    rename World => wr
    have z1 : w.heap.size + 1 < wr.heap.size := Nat.lt_of_lt_of_le z0 HB.out.size
    by_cases hlt : k < x.ps.length
    · obtain ⟨o', c', ev, _, hp'⟩ := HPv.out
      obtain ⟨rfl, rfl⟩ : o = o' ∧ cap = c' := by cases ev; exact ⟨rfl, rfl⟩
      clear ev
      obtain ⟨b, off, rfl, hL⟩ := hp' (by omega)
      clear hp'
      obtain ⟨vy, hcel, hry⟩ := hL k hlt
      replace hcel := hcel.bl (bW0.trans HB.out)
      have htk := Lib.hid (fun h2 => take_all (P := fun e => nmP e ≠ s.data.toList) hlt HJ.out h2)
      have hat := Lib.hid (fun h => fndO_at hlt HJ.out h)
      obtain ⟨y, hy⟩ : ∃ y, y = x.ps[k] := ⟨_, rfl⟩
      rw [← hy] at hcel hry htk hat
      clear hy hL
      obtain ⟨oy, cy, evy⟩ : ∃ o c, vy = .slice o y.rs.length c := by obtain ⟨o, c, e, _⟩ := hry; exact ⟨o, c, e⟩
      subst evy
      obtain ⟨c0, c1, c2, c3, c4, c5, c6⟩ := hcel
      have k1 : (k : Int) < (x.ps.length : Int) := by omega
      by_cases hq : nmP y = s.data.toList
      · have hfo := hat.out hq
        have hf : fnd x.ps s.data.toList = y := by unfold fnd; rw [hfo]; rfl
        have HF : Hid (fnd x.ps s.data.toList = y ∧ (fndO x.ps s.data.toList).isSome = true) := ⟨hf, by rw [hfo]; rfl⟩
        have hs := str_same (a := y.name) (b := s) hq
        obtain ⟨W1, hW1⟩ : ∃ W1, wr.alloc (.cells #[.string y.name, .int .i64 y.grp, .int .i64 y.slot, .int .i64 y.fine, .int .i64 y.dflt, .bool y.snap, .slice oy y.rs.length cy] 46) = W1 := ⟨_, rfl⟩
        have b1 : Bl wr W1 := by rw [← hW1]; exact (Bl.refl wr).alloc _
        obtain ⟨u0, u1, u2, u3, u4, u5, u6⟩ : CelP W1 wr.heap.size 0 y (.slice oy y.rs.length cy) := by rw [← hW1]; exact CelP.new _ _ _ _
        obtain ⟨p0, p1, p2, p3, p4, p5, p6⟩ := HZ.out _ (HB.out.trans b1)
        simp only [Nat.zero_add] at u1 u2 u3 u4 u5 u6 p1 p2 p3 p4 p5 p6
        have fz := HFz.out _ (HB.out.trans b1)
        have f0 := fz 0
        have f1 := fz 1
        have f2 := fz 2
        have f3 := fz 3
        have f4 := fz 4
        have f5 := fz 5
        have f6 := fz 6
        have zz : wr.heap.size ≠ w.heap.size + 1 := by omega
        have E := Lib.hid (stv7 (.string y.name) (.int .i64 y.grp) (.int .i64 y.slot) (.int .i64 y.fine) (.int .i64 y.dflt) (.bool y.snap) (.slice oy y.rs.length cy) p0 p1 p2 p3 p4 p5 p6)
        have BW1 := Lib.hid (bW0.trans (HB.out.trans b1))
        have HRY := Lib.hid hry
        clear htk hat hq hfo hf hry d0 d1 d2 fz b1
        go_wp2
        obtain ⟨E0, E1, E2, E3, E4, E5, E6⟩ := E.out
        have hfin := stb7 BW1.out (show w.heap.size ≤ w.heap.size + 1 by omega) (.string y.name) (.int .i64 y.grp) (.int .i64 y.slot) (.int .i64 y.fine) (.int .i64 y.dflt) (.bool y.snap) (.slice oy y.rs.length cy)
        refine bodyPost_ret (v := .tuple #[parV y (.slice oy y.rs.length cy), .bool true]) ?_ rfl ⟨.slice oy y.rs.length cy, by rw [HF.out.1, HF.out.2], by rw [HF.out.1]; exact HRY.out.bl hfin, hfin⟩
        simp [results, Tryd.results34, go_sem, parV, E0, E1, E2, E3, E4, E5, E6]
      · have hn' := Lib.hid (htk.out hq)
        have hs := str_other (a := y.name) (b := s) hq
        clear htk hq hat hry
        go_wp2
        go_roundw
        case rel => exact ⟨k + 1, by omega, by go_num, hn'.out, HB.out.alloc _⟩
        case measure => simp [intOf]; omega
    · obtain rfl : k = x.ps.length := by omega
      have hno := fndO_none (by have := HJ.out; rwa [List.take_length] at this)
      have HF : Hid (fnd x.ps s.data.toList = zeroPar ∧ (fndO x.ps s.data.toList).isSome = false) := ⟨by unfold fnd; rw [hno]; rfl, by rw [hno]; rfl⟩
      obtain ⟨p0, p1, p2, p3, p4, p5, p6⟩ := HZ.out _ HB.out
      simp only [Nat.zero_add] at p1 p2 p3 p4 p5 p6
      have fz := HFz.out _ HB.out
      have f0 := fz 0
      have f1 := fz 1
      have f2 := fz 2
      have f3 := fz 3
      have f4 := fz 4
      have f5 := fz 5
      have f6 := fz 6
      have E := Lib.hid (stv7 (.string ⟨#[]⟩) (.int .i64 0) (.int .i64 0) (.int .i64 0) (.int .i64 0) (.bool false) (.slice none 0 0) p0 p1 p2 p3 p4 p5 p6)
      clear HJ hno fz
      go_wp2
      obtain ⟨E0, E1, E2, E3, E4, E5, E6⟩ := E.out
      have hfin := stb7 (bW0.trans HB.out) (show w.heap.size ≤ w.heap.size + 1 by omega) (.string ⟨#[]⟩) (.int .i64 0) (.int .i64 0) (.int .i64 0) (.int .i64 0) (.bool false) (.slice none 0 0)
      refine bodyPost_ret (v := .tuple #[parV zeroPar (.slice none 0 0), .bool false]) ?_ rfl ⟨.slice none 0 0, by rw [HF.out.1, HF.out.2], by rw [HF.out.1]; exact ⟨none, 0, rfl, ⟨Nat.le_refl _, by decide⟩, fun h => absurd h (by decide)⟩, hfin⟩
      simp [results, Tryd.results34, go_sem, parV, zeroPar, E0, E1, E2, E3, E4, E5, E6]

set_option maxRecDepth 100000 in
set_option maxHeartbeats 3200000 in
theorem paramR_any (x : Prof) (vp : Value) (s : ByteArray) (w : World) (hp : ParVal w vp x.ps) :
    Calls Tryd.prog 36 #[.agg #[.string x.name, .int .i64 x.size, vp], .string s] w (FndPost x.ps s.data.toList w) := by
  obtain ⟨W0, hW0⟩ : ∃ W0, W0 = (w.alloc (.cells #[.string x.name, .int .i64 x.size, vp] 29)).alloc (.cells #[.string ⟨#[]⟩, .int .i64 0, .int .i64 0, .int .i64 0, .int .i64 0, .bool false, .slice none 0 0] 46) := ⟨_, rfl⟩
  have bW0 : Bl w W0 := by rw [hW0]; exact ((Bl.refl w).alloc _).alloc _
  have HC := Lib.hid (show ∀ w', Bl W0 w' → CelF w' w.heap.size 0 x vp from fun w' g => CelF.bl (by rw [hW0]; exact (CelF.new w _ _ _).bl ((Bl.refl _).alloc _)) g)
  have HZ := Lib.hid (show ∀ w', Bl W0 w' → CelP w' (w.heap.size + 1) 0 zeroPar (.slice none 0 0) from fun w' g => CelP.bl (by have := CelP.new (w.alloc (.cells #[.string x.name, .int .i64 x.size, vp] 29)) 46 zeroPar (.slice none 0 0); rw [World.size_alloc] at this; rw [hW0]; exact this) g)
  have z0 : w.heap.size + 1 < W0.heap.size := by rw [hW0]; simp
  have HFz := Lib.hid (show ∀ w', Bl W0 w' → ∀ j, w'.frozen? ⟨w.heap.size + 1, j, none⟩ = false from fun w' g j => by rw [g.frozen (p := ⟨w.heap.size + 1, j, none⟩) z0, hW0]; simp)
  have HPv := Lib.hid hp
  obtain ⟨o, cap, rfl, _, _⟩ := hp
  obtain ⟨d0, d1, d2⟩ := HC.out W0 (Bl.refl _)
  have hW := hW0.symm
  clear hW0
  unfold FndPost
  go_enter Tryd.func36, Tryd.ntmps36
  go_wp2
  go_loopw [11] (fun vi wr => ∃ k : Nat, k ≤ x.ps.length ∧ vi = .int .i64 k ∧ Hid (∀ e ∈ x.ps.take k, nmP e ≠ s.data.toList) ∧ Hid (Bl W0 wr)) (fun vi _ => x.ps.length - (intOf vi).toNat)
  case atStart => exact ⟨0, Nat.zero_le _, rfl, (fun e he => by simp at he), Bl.refl _⟩
  case round =>
    obtain ⟨k, hk, rfl, HJ, HB⟩ := hrel
    rename World => wr
    have z1 : w.heap.size + 1 < wr.heap.size := Nat.lt_of_lt_of_le z0 HB.out.size
    by_cases hlt : k < x.ps.length
    · obtain ⟨o', c', ev, _, hp'⟩ := HPv.out
      obtain ⟨rfl, rfl⟩ : o = o' ∧ cap = c' := by cases ev; exact ⟨rfl, rfl⟩
      clear ev
      obtain ⟨b, off, rfl, hL⟩ := hp' (by omega)
      clear hp'
      obtain ⟨vy, hcel, hry⟩ := hL k hlt
      replace hcel := hcel.bl (bW0.trans HB.out)
      have htk := Lib.hid (fun h2 => take_all (P := fun e => nmP e ≠ s.data.toList) hlt HJ.out h2)
      have hat := Lib.hid (fun h => fndO_at hlt HJ.out h)
      obtain ⟨y, hy⟩ : ∃ y, y = x.ps[k] := ⟨_, rfl⟩
      rw [← hy] at hcel hry htk hat
      clear hy hL
      obtain ⟨oy, cy, evy⟩ : ∃ o c, vy = .slice o y.rs.length c := by obtain ⟨o, c, e, _⟩ := hry; exact ⟨o, c, e⟩
      subst evy
      obtain ⟨c0, c1, c2, c3, c4, c5, c6⟩ := hcel
      have k1 : (k : Int) < (x.ps.length : Int) := by omega
      by_cases hq : nmP y = s.data.toList
      · have hfo := hat.out hq
        have hf : fnd x.ps s.data.toList = y := by unfold fnd; rw [hfo]; rfl
        have HF : Hid (fnd x.ps s.data.toList = y ∧ (fndO x.ps s.data.toList).isSome = true) := ⟨hf, by rw [hfo]; rfl⟩
        have hs := str_same (a := y.name) (b := s) hq
        obtain ⟨W1, hW1⟩ : ∃ W1, wr.alloc (.cells #[.string y.name, .int .i64 y.grp, .int .i64 y.slot, .int .i64 y.fine, .int .i64 y.dflt, .bool y.snap, .slice oy y.rs.length cy] 46) = W1 := ⟨_, rfl⟩
        have b1 : Bl wr W1 := by rw [← hW1]; exact (Bl.refl wr).alloc _
        obtain ⟨u0, u1, u2, u3, u4, u5, u6⟩ : CelP W1 wr.heap.size 0 y (.slice oy y.rs.length cy) := by rw [← hW1]; exact CelP.new _ _ _ _
        obtain ⟨p0, p1, p2, p3, p4, p5, p6⟩ := HZ.out _ (HB.out.trans b1)
        simp only [Nat.zero_add] at u1 u2 u3 u4 u5 u6 p1 p2 p3 p4 p5 p6
        have fz := HFz.out _ (HB.out.trans b1)
        have f0 := fz 0
        have f1 := fz 1
        have f2 := fz 2
        have f3 := fz 3
        have f4 := fz 4
        have f5 := fz 5
        have f6 := fz 6
        have zz : wr.heap.size ≠ w.heap.size + 1 := by omega
        have E := Lib.hid (stv7 (.string y.name) (.int .i64 y.grp) (.int .i64 y.slot) (.int .i64 y.fine) (.int .i64 y.dflt) (.bool y.snap) (.slice oy y.rs.length cy) p0 p1 p2 p3 p4 p5 p6)
        have BW1 := Lib.hid (bW0.trans (HB.out.trans b1))
        have HRY := Lib.hid hry
        clear htk hat hq hfo hf hry d0 d1 d2 fz b1
        go_wp2
        obtain ⟨E0, E1, E2, E3, E4, E5, E6⟩ := E.out
        have hfin := stb7 BW1.out (show w.heap.size ≤ w.heap.size + 1 by omega) (.string y.name) (.int .i64 y.grp) (.int .i64 y.slot) (.int .i64 y.fine) (.int .i64 y.dflt) (.bool y.snap) (.slice oy y.rs.length cy)
        refine bodyPost_ret (v := .tuple #[parV y (.slice oy y.rs.length cy), .bool true]) ?_ rfl ⟨.slice oy y.rs.length cy, by rw [HF.out.1, HF.out.2], by rw [HF.out.1]; exact HRY.out.bl hfin, hfin⟩
        simp [results, Tryd.results36, go_sem, parV, E0, E1, E2, E3, E4, E5, E6]
      · have hn' := Lib.hid (htk.out hq)
        have hs := str_other (a := y.name) (b := s) hq
        clear htk hq hat hry
        go_wp2
        go_roundw
        case rel => exact ⟨k + 1, by omega, by go_num, hn'.out, HB.out.alloc _⟩
        case measure => simp [intOf]; omega
    · obtain rfl : k = x.ps.length := by omega
      have hno := fndO_none (by have := HJ.out; rwa [List.take_length] at this)
      have HF : Hid (fnd x.ps s.data.toList = zeroPar ∧ (fndO x.ps s.data.toList).isSome = false) := ⟨by unfold fnd; rw [hno]; rfl, by rw [hno]; rfl⟩
      obtain ⟨p0, p1, p2, p3, p4, p5, p6⟩ := HZ.out _ HB.out
      simp only [Nat.zero_add] at p1 p2 p3 p4 p5 p6
      have fz := HFz.out _ HB.out
      have f0 := fz 0
      have f1 := fz 1
      have f2 := fz 2
      have f3 := fz 3
      have f4 := fz 4
      have f5 := fz 5
      have f6 := fz 6
      have E := Lib.hid (stv7 (.string ⟨#[]⟩) (.int .i64 0) (.int .i64 0) (.int .i64 0) (.int .i64 0) (.bool false) (.slice none 0 0) p0 p1 p2 p3 p4 p5 p6)
      clear HJ hno fz
      go_wp2
      obtain ⟨E0, E1, E2, E3, E4, E5, E6⟩ := E.out
      have hfin := stb7 (bW0.trans HB.out) (show w.heap.size ≤ w.heap.size + 1 by omega) (.string ⟨#[]⟩) (.int .i64 0) (.int .i64 0) (.int .i64 0) (.int .i64 0) (.bool false) (.slice none 0 0)
      refine bodyPost_ret (v := .tuple #[parV zeroPar (.slice none 0 0), .bool false]) ?_ rfl ⟨.slice none 0 0, by rw [HF.out.1, HF.out.2], by rw [HF.out.1]; exact ⟨none, 0, rfl, ⟨Nat.le_refl _, by decide⟩, fun h => absurd h (by decide)⟩, hfin⟩
      simp [results, Tryd.results36, go_sem, parV, zeroPar, E0, E1, E2, E3, E4, E5, E6]

set_option maxRecDepth 100000 in
set_option maxHeartbeats 3200000 in
theorem rangeOf_any (x : Par) (vp : Value) (s : ByteArray) (w : World) (hp : RngVal w vp x.rs) :
    Calls Tryd.prog 35 #[.agg #[.string x.name, .int .i64 x.grp, .int .i64 x.slot, .int .i64 x.fine, .int .i64 x.dflt, .bool x.snap, vp], .string s] w fun e w' => e = .returned (.tuple #[rngV ((rgfO x.rs s.data.toList).getD ⟨0, 0, ⟨#[]⟩⟩), .bool (rgfO x.rs s.data.toList).isSome]) ∧ Bl w w' := by
  obtain ⟨W0, hW0⟩ : ∃ W0, W0 = (w.alloc (.cells #[.string x.name, .int .i64 x.grp, .int .i64 x.slot, .int .i64 x.fine, .int .i64 x.dflt, .bool x.snap, vp] 46)).alloc (.cells #[.int .i64 0, .int .i64 0, .string ⟨#[]⟩] 67) := ⟨_, rfl⟩
  have bW0 : Bl w W0 := by rw [hW0]; exact ((Bl.refl w).alloc _).alloc _
  have HC := Lib.hid (show ∀ w', Bl W0 w' → CelP w' w.heap.size 0 x vp from fun w' g => CelP.bl (by rw [hW0]; exact (CelP.new w _ _ _).bl ((Bl.refl _).alloc _)) g)
  have HZ := Lib.hid (show ∀ w', Bl W0 w' → CelR w' (w.heap.size + 1) 0 ⟨0, 0, ⟨#[]⟩⟩ from fun w' g => CelR.bl (by have := CelR.new (w.alloc (.cells #[.string x.name, .int .i64 x.grp, .int .i64 x.slot, .int .i64 x.fine, .int .i64 x.dflt, .bool x.snap, vp] 46)) 67 ⟨0, 0, ⟨#[]⟩⟩; rw [World.size_alloc] at this; rw [hW0]; exact this) g)
  have z0 : w.heap.size + 1 < W0.heap.size := by rw [hW0]; simp
  have HFz := Lib.hid (show ∀ w', Bl W0 w' → ∀ j, w'.frozen? ⟨w.heap.size + 1, j, none⟩ = false from fun w' g j => by rw [g.frozen (p := ⟨w.heap.size + 1, j, none⟩) z0, hW0]; simp)
  have HPv := Lib.hid hp
  obtain ⟨o, cap, rfl, _, _⟩ := hp
  obtain ⟨d0, d1, d2, d3, d4, d5, d6⟩ := HC.out W0 (Bl.refl _)
  have hW := hW0.symm
  clear hW0
  go_enter Tryd.func35, Tryd.ntmps35
  go_wp2
  go_loopw [11] (fun vi wr => ∃ k : Nat, k ≤ x.rs.length ∧ vi = .int .i64 k ∧ Hid (∀ e ∈ x.rs.take k, nmR e ≠ s.data.toList) ∧ Hid (Bl W0 wr)) (fun vi _ => x.rs.length - (intOf vi).toNat)
  case atStart => exact ⟨0, Nat.zero_le _, rfl, (fun e he => by simp at he), Bl.refl _⟩
  case round =>
    obtain ⟨k, hk, rfl, HJ, HB⟩ := hrel
    rename World => wr
    have z1 : w.heap.size + 1 < wr.heap.size := Nat.lt_of_lt_of_le z0 HB.out.size
    by_cases hlt : k < x.rs.length
    · obtain ⟨o', c', ev, _, hp'⟩ := HPv.out
      obtain ⟨rfl, rfl⟩ : o = o' ∧ cap = c' := by cases ev; exact ⟨rfl, rfl⟩
      clear ev
      obtain ⟨b, off, rfl, hL⟩ := hp' (by omega)
      clear hp'
      obtain ⟨c0, c1, c2⟩ := (hL k hlt).bl (bW0.trans HB.out)
      have htk := Lib.hid (fun h2 => take_all (P := fun e => nmR e ≠ s.data.toList) hlt HJ.out h2)
      have hat := Lib.hid (fun h => rgfO_at hlt HJ.out h)
      obtain ⟨y, hy⟩ : ∃ y, y = x.rs[k] := ⟨_, rfl⟩
      rw [← hy] at c0 c1 c2 htk hat
      clear hy hL
      have k1 : (k : Int) < (x.rs.length : Int) := by omega
      by_cases hq : nmR y = s.data.toList
      · have HF := Lib.hid (hat.out hq)
        have hs := str_same (a := y.name) (b := s) hq
        obtain ⟨W1, hW1⟩ : ∃ W1, wr.alloc (.cells #[.int .i64 y.lo, .int .i64 y.hi, .string y.name] 67) = W1 := ⟨_, rfl⟩
        have b1 : Bl wr W1 := by rw [← hW1]; exact (Bl.refl wr).alloc _
        obtain ⟨u0, u1, u2⟩ : CelR W1 wr.heap.size 0 y := by rw [← hW1]; exact CelR.new _ _ _
        obtain ⟨p0, p1, p2⟩ := HZ.out _ (HB.out.trans b1)
        simp only [Nat.zero_add] at u1 u2 p1 p2
        have fz := HFz.out _ (HB.out.trans b1)
        have f0 := fz 0
        have f1 := fz 1
        have f2 := fz 2
        have zz : wr.heap.size ≠ w.heap.size + 1 := by omega
        have E := Lib.hid (stv3 (.int .i64 y.lo) (.int .i64 y.hi) (.string y.name) p0 p1 p2)
        have BW1 := Lib.hid (bW0.trans (HB.out.trans b1))
        clear htk hat hq d0 d1 d2 d3 d4 d5 d6 fz b1
        go_wp2
        obtain ⟨E0, E1, E2⟩ := E.out
        have hfin := stb3 BW1.out (show w.heap.size ≤ w.heap.size + 1 by omega) (.int .i64 y.lo) (.int .i64 y.hi) (.string y.name)
        refine bodyPost_ret (v := .tuple #[rngV y, .bool true]) ?_ rfl ⟨by rw [HF.out]; rfl, hfin⟩
        simp [results, Tryd.results35, go_sem, rngV, E0, E1, E2]
      · have hn' := Lib.hid (htk.out hq)
        have hs := str_other (a := y.name) (b := s) hq
        clear htk hq hat
        go_wp2
        go_roundw
        case rel => exact ⟨k + 1, by omega, by go_num, hn'.out, HB.out.alloc _⟩
        case measure => simp [intOf]; omega
    · obtain rfl : k = x.rs.length := by omega
      have HF := Lib.hid (rgfO_none (by have := HJ.out; rwa [List.take_length] at this))
      obtain ⟨p0, p1, p2⟩ := HZ.out _ HB.out
      simp only [Nat.zero_add] at p1 p2
      have fz := HFz.out _ HB.out
      have f0 := fz 0
      have f1 := fz 1
      have f2 := fz 2
      have E := Lib.hid (stv3 (.int .i64 0) (.int .i64 0) (.string ⟨#[]⟩) p0 p1 p2)
      clear HJ fz
      go_wp2
      obtain ⟨E0, E1, E2⟩ := E.out
      have hfin := stb3 (bW0.trans HB.out) (show w.heap.size ≤ w.heap.size + 1 by omega) (.int .i64 0) (.int .i64 0) (.string ⟨#[]⟩)
      refine bodyPost_ret (v := .tuple #[rngV ⟨0, 0, ⟨#[]⟩⟩, .bool false]) ?_ rfl ⟨by rw [HF.out]; rfl, hfin⟩
      simp [results, Tryd.results35, go_sem, rngV, E0, E1, E2]
end Go.Proofs.YtcidldomnifdeaaDoor

/- Named of both. -/
namespace Go.Proofs.YtcidldomnifdeaaDoor
open Go.RowKit Go.Sort

/-- What Named says. -/
def nmdV (x : Prof) (a b : List UInt8) : Int := if ckProf x = 0 then match rgfO (fnd x.ps a).rs b with
  | none => 0
  | some r => (r.lo + r.hi) / 2
  else 0
def nmdF (x : Prof) (a b : List UInt8) : Int := if ckProf x = 0 then match rgfO (fnd x.ps a).rs b with
  | none => 8
  | some _ => 0
  else ckProf x
theorem rgf_good {x : Prof} {a b : List UInt8} {r : Rng} (h : ckProf x = 0) (hr : rgfO (fnd x.ps a).rs b = some r) : RngGood r := by
  have h1 := List.mem_of_find?_eq_some hr
  rcases fnd_mem (L := x.ps) (l := a) with hm | hz
  · exact ((ckProf_good h).2.2.2 _ hm).2.2.2.2.2.2 _ h1
  · rw [hz] at h1; simp [zeroPar] at h1

set_option maxRecDepth 100000 in
set_option maxHeartbeats 3200000 in
theorem named_any (x : Prof) (vp : Value) (s t : ByteArray) (w : World) (hp : ParVal w vp x.ps) (hok : ProfOk x) :
    Calls Tryd.prog 10 #[.agg #[.string x.name, .int .i64 x.size, vp], .string s, .string t] w fun e w' => e = .returned (.tuple #[.int .i64 (nmdV x s.data.toList t.data.toList), .int .i64 (nmdF x s.data.toList t.data.toList)]) ∧ Bl w w' := by
  obtain ⟨W0, hW0⟩ : ∃ W0, W0 = w.alloc (.cells #[.string x.name, .int .i64 x.size, vp] 29) := ⟨_, rfl⟩
  have bW0 : Bl w W0 := by rw [hW0]; exact (Bl.refl w).alloc _
  have HC := Lib.hid (show ∀ w', Bl W0 w' → CelF w' w.heap.size 0 x vp from fun w' g => CelF.bl (by rw [hW0]; exact CelF.new _ _ _ _) g)
  have HCk := Lib.hid (fun w' (g : Bl W0 w') => checkProfile_any x vp w' (hp.bl (bW0.trans g)) hok)
  have HPm := Lib.hid (fun w' (g : Bl W0 w') => paramOf_any x vp s w' (hp.bl (bW0.trans g)))
  unfold FndPost at HPm
  obtain ⟨o, cap, rfl, _, _⟩ := hp
  obtain ⟨d0, d1, d2⟩ := HC.out W0 (Bl.refl _)
  have hW := hW0.symm
  clear hW0
  by_cases hz : ckProf x = 0
  · have hg := Lib.hid (fun r h => rgf_good (r := r) (a := s.data.toList) (b := t.data.toList) hz h)
    have e1 : Hid (nmdV x s.data.toList t.data.toList = match rgfO (fnd x.ps s.data.toList).rs t.data.toList with
      | none => 0
      | some r => (r.lo + r.hi) / 2) := by show _ = _; unfold nmdV; rw [if_pos hz]
    have e2 : Hid (nmdF x s.data.toList t.data.toList = match rgfO (fnd x.ps s.data.toList).rs t.data.toList with
      | none => 8
      | some _ => 0) := by show _ = _; unfold nmdF; rw [if_pos hz]
    rw [hz] at HCk
    clear hz
    have HRg := Lib.hid (fun v w' (h : RngVal w' v (fnd x.ps s.data.toList).rs) => rangeOf_any (fnd x.ps s.data.toList) v t w' h)
    generalize fnd x.ps s.data.toList = q at *
    cases hr : rgfO q.rs t.data.toList with
    | none =>
      rw [hr] at HRg e1 e2
      simp only [Option.getD_none, Option.isSome_none] at HRg
      have HRn : Hid (rgfO q.rs t.data.toList = none) := hr
      clear hr
      go_enter Tryd.func10, Tryd.ntmps10
      go_wp2_with (first
        | (go_at_call 12; refine (HCk.out _ (Bl.refl _)).mono ?_; rintro e w1 ⟨rfl, m1⟩; clear d0 d1 d2; obtain ⟨d0, d1, d2⟩ := HC.out _ m1)
        | (go_at_call 34; refine (HPm.out _ m1).mono ?_; rintro e w2 ⟨vq, rfl, hq, m2⟩; have hqf : ∃ o c, vq = .slice o q.rs.length c := (by obtain ⟨o, c, e, _⟩ := hq; exact ⟨o, c, e⟩); obtain ⟨oq, cq, evq⟩ := hqf; subst evq; have HQ := Lib.hid hq; have M2 := Lib.hid m2; clear hq m2; unfold parV)
        | (go_at_call 35; refine (HRg.out _ _ (HQ.out.bl ((Bl.refl w2).alloc _))).mono ?_; rintro e w3 ⟨rfl, m3⟩; unfold rngV))
      go_returns
      exact ⟨by rw [e1.out, e2.out]; rfl, bW0.trans (m1.trans (M2.out.trans (((Bl.refl w2).alloc _).trans (m3.alloc _))))⟩
    | some r =>
      rw [hr] at HRg e1 e2
      simp only [Option.getD_some, Option.isSome_some] at HRg
      obtain ⟨⟨r0, r1, r2⟩, _⟩ := hg.out r hr
      clear hr hg
      have hws : IntKind.i64.wrap (r.lo + r.hi) = r.lo + r.hi := IntWalk.i64_in _ (by omega)
      go_enter Tryd.func10, Tryd.ntmps10
      go_wp2_with (first
        | (go_at_call 12; refine (HCk.out _ (Bl.refl _)).mono ?_; rintro e w1 ⟨rfl, m1⟩; clear d0 d1 d2; obtain ⟨d0, d1, d2⟩ := HC.out _ m1)
        | (go_at_call 34; refine (HPm.out _ m1).mono ?_; rintro e w2 ⟨vq, rfl, hq, m2⟩; have hqf : ∃ o c, vq = .slice o q.rs.length c := (by obtain ⟨o, c, e, _⟩ := hq; exact ⟨o, c, e⟩); obtain ⟨oq, cq, evq⟩ := hqf; subst evq; have HQ := Lib.hid hq; have M2 := Lib.hid m2; clear hq m2; unfold parV)
        | (go_at_call 35; refine (HRg.out _ _ (HQ.out.bl ((Bl.refl w2).alloc _))).mono ?_; rintro e w3 ⟨rfl, m3⟩; unfold rngV))
      go_returns
      exact ⟨by rw [e1.out, e2.out]; rfl, bW0.trans (m1.trans (M2.out.trans (((Bl.refl w2).alloc _).trans (m3.alloc _))))⟩
  · have e1 : Hid (nmdV x s.data.toList t.data.toList = 0) := by show _ = _; unfold nmdV; rw [if_neg hz]
    have e2 : Hid (nmdF x s.data.toList t.data.toList = ckProf x) := by show _ = _; unfold nmdF; rw [if_neg hz]
    have hzb : (ckProf x != 0) = true := by simpa using hz
    clear hz
    generalize ckProf x = X at *
    go_enter Tryd.func10, Tryd.ntmps10
    go_wp2_with (first
      | (go_at_call 12; refine (HCk.out _ (Bl.refl _)).mono ?_; rintro e w1 ⟨rfl, m1⟩))
    go_returns
    exact ⟨by rw [e1.out, e2.out]; rfl, bW0.trans m1⟩

set_option maxRecDepth 100000 in
set_option maxHeartbeats 3200000 in
theorem named_ref (x : Prof) (vp : Value) (s t : ByteArray) (w : World) (hp : ParVal w vp x.ps) (hok : ProfOk x) :
    Calls Tryd.prog 11 #[.agg #[.string x.name, .int .i64 x.size, vp], .string s, .string t] w fun e w' => e = .returned (.tuple #[.int .i64 (nmdV x s.data.toList t.data.toList), .int .i64 (nmdF x s.data.toList t.data.toList)]) ∧ Bl w w' := by
  obtain ⟨W0, hW0⟩ : ∃ W0, W0 = w.alloc (.cells #[.string x.name, .int .i64 x.size, vp] 29) := ⟨_, rfl⟩
  have bW0 : Bl w W0 := by rw [hW0]; exact (Bl.refl w).alloc _
  have HC := Lib.hid (show ∀ w', Bl W0 w' → CelF w' w.heap.size 0 x vp from fun w' g => CelF.bl (by rw [hW0]; exact CelF.new _ _ _ _) g)
  have HCk := Lib.hid (fun w' (g : Bl W0 w') => checkProfile_ref x vp w' (hp.bl (bW0.trans g)) hok)
  have HPm := Lib.hid (fun w' (g : Bl W0 w') => paramR_any x vp s w' (hp.bl (bW0.trans g)))
  unfold FndPost at HPm
  obtain ⟨o, cap, rfl, _, _⟩ := hp
  obtain ⟨d0, d1, d2⟩ := HC.out W0 (Bl.refl _)
  have hW := hW0.symm
  clear hW0
  by_cases hz : ckProf x = 0
  · have hg := Lib.hid (fun r h => rgf_good (r := r) (a := s.data.toList) (b := t.data.toList) hz h)
    have e1 : Hid (nmdV x s.data.toList t.data.toList = match rgfO (fnd x.ps s.data.toList).rs t.data.toList with
      | none => 0
      | some r => (r.lo + r.hi) / 2) := by show _ = _; unfold nmdV; rw [if_pos hz]
    have e2 : Hid (nmdF x s.data.toList t.data.toList = match rgfO (fnd x.ps s.data.toList).rs t.data.toList with
      | none => 8
      | some _ => 0) := by show _ = _; unfold nmdF; rw [if_pos hz]
    rw [hz] at HCk
    clear hz
    generalize fnd x.ps s.data.toList = q at *
    go_enter Tryd.func11, Tryd.ntmps11
    go_wp2_with (first
      | (go_at_call 13; refine (HCk.out _ (Bl.refl _)).mono ?_; rintro e w1 ⟨rfl, m1⟩; clear d0 d1 d2; obtain ⟨d0, d1, d2⟩ := HC.out _ m1)
      | (go_at_call 36; refine (HPm.out _ m1).mono ?_; rintro e w2 ⟨vq, rfl, hq, m2⟩; have hqf : ∃ o c, vq = .slice o q.rs.length c := (by obtain ⟨o, c, e, _⟩ := hq; exact ⟨o, c, e⟩); obtain ⟨oq, cq, evq⟩ := hqf; subst evq; have HQ := Lib.hid hq; have M2 := Lib.hid (bW0.trans (m1.trans m2)); clear hq m2; unfold parV))
    clear d0 d1 d2 m1
    go_loopw [27] (fun vi wr => ∃ k : Nat, k ≤ q.rs.length ∧ vi = .int .i64 k ∧ Hid (∀ e ∈ q.rs.take k, nmR e ≠ t.data.toList) ∧ Hid (Bl w2 wr)) (fun vi _ => q.rs.length - (intOf vi).toNat)
    case atStart => exact ⟨0, Nat.zero_le _, rfl, (fun e he => by simp at he), (Bl.refl _).alloc _⟩
    case round =>
      obtain ⟨k, hk, rfl, HJ, HB⟩ := hrel
      rename World => wr
      by_cases hlt : k < q.rs.length
      · obtain ⟨o', c', ev, _, hp'⟩ := HQ.out
        obtain ⟨rfl, rfl⟩ : oq = o' ∧ cq = c' := by cases ev; exact ⟨rfl, rfl⟩
        clear ev
        obtain ⟨b, off, rfl, hL⟩ := hp' (by omega)
        clear hp'
        obtain ⟨c0, c1, c2⟩ := (hL k hlt).bl HB.out
        have htk := Lib.hid (fun h2 => take_all (P := fun e => nmR e ≠ t.data.toList) hlt HJ.out h2)
        have hat := Lib.hid (fun h => rgfO_at hlt HJ.out h)
        obtain ⟨y, hy⟩ : ∃ y, y = q.rs[k] := ⟨_, rfl⟩
        rw [← hy] at c0 c1 c2 htk hat
        clear hy hL
        have k1 : (k : Int) < (q.rs.length : Int) := by omega
        by_cases hq : nmR y = t.data.toList
        · have hr := hat.out hq
          obtain ⟨⟨r0, r1, r2⟩, _⟩ := hg.out y hr
          have e1' : Hid (nmdV x s.data.toList t.data.toList = (y.lo + y.hi) / 2) := by show _ = _; rw [e1.out, hr]
          have e2' : Hid (nmdF x s.data.toList t.data.toList = 0) := by show _ = _; rw [e2.out, hr]
          have hws : IntKind.i64.wrap (y.lo + y.hi) = y.lo + y.hi := IntWalk.i64_in _ (by omega)
          have hs := str_same (a := y.name) (b := t) hq
          clear htk hat hq hr e1 e2 hg
          go_wp2
          go_ret2
          exact ⟨by rw [e1'.out, e2'.out]; rfl, (M2.out.trans HB.out).alloc _⟩
        · have hn' := Lib.hid (htk.out hq)
          have hs := str_other (a := y.name) (b := t) hq
          clear htk hq hat
          go_wp2
          go_roundw
          case rel => exact ⟨k + 1, by omega, by go_num, hn'.out, HB.out.alloc _⟩
          case measure => simp [intOf]; omega
      · obtain rfl : k = q.rs.length := by omega
        have hno := rgfO_none (by have := HJ.out; rwa [List.take_length] at this)
        have e1' : Hid (nmdV x s.data.toList t.data.toList = 0) := by show _ = _; rw [e1.out, hno]
        have e2' : Hid (nmdF x s.data.toList t.data.toList = 8) := by show _ = _; rw [e2.out, hno]
        clear HJ hno e1 e2 hg
        go_wp2
        go_ret2
        exact ⟨by rw [e1'.out, e2'.out]; rfl, M2.out.trans HB.out⟩
  · have e1 : Hid (nmdV x s.data.toList t.data.toList = 0) := by show _ = _; unfold nmdV; rw [if_neg hz]
    have e2 : Hid (nmdF x s.data.toList t.data.toList = ckProf x) := by show _ = _; unfold nmdF; rw [if_neg hz]
    have hzb : (ckProf x != 0) = true := by simpa using hz
    clear hz
    generalize ckProf x = X at *
    go_enter Tryd.func11, Tryd.ntmps11
    go_wp2_with (first
      | (go_at_call 13; refine (HCk.out _ (Bl.refl _)).mono ?_; rintro e w1 ⟨rfl, m1⟩))
    go_returns
    exact ⟨by rw [e1.out, e2.out]; rfl, bW0.trans m1⟩
end Go.Proofs.YtcidldomnifdeaaDoor

/- The row's last step, where it is known that nothing below the heap's size has turned. -/
namespace Go.Proofs.YtcidldomnifdeaaDoor
open Go.RowKit Go.ChangeShapes Go.WideShapes Go.ChangeAt
section
variable {H : Type} {enc : TypeId × Value → H} {P : Program}
/-- 'post' of a call that has changed nothing that was there, read again. -/
theorem post_of_old {f : Func} {s : ChangeSpec} {apart fresh handsOn again : Bool} {W W' : World} {args : Array Value} {v : Value} {ds gs : List (DataW H)} {before pa pv : List MemPlace}
    (hW : DataW.Whole enc P f.params.toList s.vars apart W args.toList ds gs before)
    (hres : ∀ (b : Nat) (sp : Nat → Bool) (hd : Bool), DataW.TrodAll enc P W' b sp hd f.resultTypes.toList (v.resultList f.resultTypes.size) (s.fn H (ds ++ gs)).results [])
    (hargs : ∀ sp : Nat → Bool, (∀ p ∈ before, sp p.block = true) → DataW.TrodAll enc P W' 0 sp true f.params.toList args.toList (s.fn H (ds ++ gs)).args pa)
    (hvars : ∀ sp : Nat → Bool, (∀ p ∈ before, sp p.block = true) → DataW.TrodVars enc P W' sp s.vars (s.fn H (ds ++ gs)).vars pv)
    (hps : before = pa ++ pv) (hg : Below W.heap.size W W')
    (hok : ∀ (j : Nat) (t : TypeId) (r : Value), f.resultTypes[j]? = some t → (v.resultList f.resultTypes.size)[j]? = some r → Value.okWide P W' .any 0 t r) :
    s.post enc P f apart fresh handsOn again W args v W' := by
  have old : ∀ p ∈ before, p.block < W.heap.size := fun p hp => hW.lt p hp
  have allowed : ∀ p ∈ before, (fun b => decide (b < W.heap.size)) p.block = true := fun p hp => by simpa using old p hp
  refine ⟨ds, gs, before, [], pa, pv, hW, hres _ _ _, hargs _ allowed, hvars _ allowed, World.keptBut_mono (fun p hp => ⟨hp, ?_⟩) (hg.frame (· ∈ before)), fun _ => ?_⟩
  · rw [hps, List.mem_append] at hp; exact Or.inr hp
  · obtain ⟨_, _, _, _, _, hz, hn⟩ := hW
    refine ⟨hok, _, _, ([] ++ pa) ++ pv, ⟨[] ++ pa, pv, trodAll_append (hargs _ (fun _ _ => rfl)) (hres _ _ _), hvars _ (fun _ _ => rfl), rfl, ?_, ?_⟩, ?_⟩
    · intro b off hp
      have hin : MemPlace.cell b off ∈ before := by rw [hps]; simpa using hp
      rw [hg.frozen (old _ hin)]
      exact hz b off hin
    · intro ha
      have := hn ha
      rw [hps] at this
      simpa using this
    · intro p hp _
      rw [hps]
      simpa using hp
theorem post_of_gr {f : Func} {s : ChangeSpec} {apart fresh handsOn again : Bool} {W W' : World} {args : Array Value} {v : Value} {ds gs : List (DataW H)} {before pa pv : List MemPlace}
    (hW : DataW.Whole enc P f.params.toList s.vars apart W args.toList ds gs before)
    (hres : ∀ (b : Nat) (sp : Nat → Bool) (hd : Bool), DataW.TrodAll enc P W' b sp hd f.resultTypes.toList (v.resultList f.resultTypes.size) (s.fn H (ds ++ gs)).results [])
    (hargs : ∀ sp : Nat → Bool, (∀ p ∈ before, sp p.block = true) → DataW.TrodAll enc P W' 0 sp true f.params.toList args.toList (s.fn H (ds ++ gs)).args pa)
    (hvars : ∀ sp : Nat → Bool, (∀ p ∈ before, sp p.block = true) → DataW.TrodVars enc P W' sp s.vars (s.fn H (ds ++ gs)).vars pv)
    (hps : before = pa ++ pv) (hg : Gr W W')
    (hok : ∀ (j : Nat) (t : TypeId) (r : Value), f.resultTypes[j]? = some t → (v.resultList f.resultTypes.size)[j]? = some r → Value.okWide P W' .any 0 t r) :
    s.post enc P f apart fresh handsOn again W args v W' := post_of_old hW hres hargs hvars hps hg.1 hok
end
end Go.Proofs.YtcidldomnifdeaaDoor

/- What all laws' proofs share: the row's last step, for a law that leaves what was there. -/
namespace Go.Proofs.YtcidldomnifdeaaDoor
open Go.RowKit Go.ChangeShapes Go.WideShapes Go.ChangeAt Go.Deep
section
variable {H : Type} {enc : TypeId × Value → H} {P : Program}

theorem trodAll_stays (hl : laidOutB P = true) {W W' : World} {sp : Nat → Bool} (hb : Below W.heap.size W W') : ∀ (ts : List TypeId) (vs : List Value) (ds : List (DataW H)) (p : List MemPlace),
    (∀ t ∈ ts, P.readableRec t = true ∧ t < P.types.size) → DataW.TrodAll enc P W 0 (fun _ => true) true ts vs ds p → (∀ x ∈ p, x.block < W.heap.size) → (∀ x ∈ p, sp x.block = true) →
    DataW.TrodAll enc P W' 0 sp true ts vs ds p
  | [], [], [], _, _, h, _, _ => h
  | t :: ts, v :: vs, d :: ds, p, hr, h, hlt, hs => by
    obtain ⟨p1, q1, h1, h2, rfl⟩ := h
    exact ⟨p1, q1, WideElems.Trod_stays hl (hr t (by simp)).1 (hr t (by simp)).2 h1 (fun x hx => hb.same (hlt x (by simp [hx]))) (fun x hx => hs x (by simp [hx])),
      trodAll_stays hl hb ts vs ds q1 (fun t ht => hr t (by simp [ht])) h2 (fun x hx => hlt x (by simp [hx])) (fun x hx => hs x (by simp [hx])), rfl⟩
  | [], [], _ :: _, _, _, h, _, _ => h.elim
  | [], _ :: _, _, _, _, h, _, _ => h.elim
  | _ :: _, [], _, _, _, h, _, _ => h.elim
  | _ :: _, _ :: _, [], _, _, h, _, _ => h.elim

/-- 'post' of a law that has answered true and has changed nothing that was there. -/
theorem law_old {f : Func} {s : ChangeSpec} {apart fresh handsOn again : Bool} {W W' : World} {args : Array Value} {ds gs : List (DataW H)} {before : List MemPlace} {tb : TypeId}
    (hW : DataW.Whole enc P f.params.toList s.vars apart W args.toList ds gs before) (hv : s.vars = []) (hs : s.fn H (ds ++ gs) = { results := [.lit (.bool true)], args := ds })
    (hr : f.resultTypes = #[tb]) (htb : P.underlying tb = some .bool) (hl : laidOutB P = true) (hp : (f.params.toList.all fun t => P.readableRec t && decide (t < P.types.size)) = true) (hg : Below W.heap.size W W') :
    s.post enc P f apart fresh handsOn again W args (.bool true) W' := by
  have hW0 := hW
  obtain ⟨p, q, hA, hV, hbef, _, _⟩ := hW0
  rw [hv] at hV
  obtain ⟨_, rfl⟩ := trodVars_none hV
  obtain rfl : before = p := by simpa using hbef
  refine post_of_old (pa := before) (pv := []) hW (fun b sp hd => ?_) (fun sp hsp => ?_) (fun sp hsp => ?_) (by simp) hg (ok_one hr rfl (okWide_bool_mk htb _))
  · rw [hs, hr]
    exact trodAll_cons_mk (shut_bool htb _) trodAll_mk0
  · rw [hs]
    exact trodAll_stays hl hg _ _ _ _ (fun t ht => by simpa using List.all_eq_true.1 hp t ht) hA (fun x hx => hW.lt x hx) hsp
  · rw [hs, hv]
    rfl
theorem law_post {f : Func} {s : ChangeSpec} {apart fresh handsOn again : Bool} {W W' : World} {args : Array Value} {ds gs : List (DataW H)} {before : List MemPlace} {tb : TypeId}
    (hW : DataW.Whole enc P f.params.toList s.vars apart W args.toList ds gs before) (hv : s.vars = []) (hs : s.fn H (ds ++ gs) = { results := [.lit (.bool true)], args := ds })
    (hr : f.resultTypes = #[tb]) (htb : P.underlying tb = some .bool) (hl : laidOutB P = true) (hp : (f.params.toList.all fun t => P.readableRec t && decide (t < P.types.size)) = true) (hg : Gr W W') :
    s.post enc P f apart fresh handsOn again W args (.bool true) W' := law_old hW hv hs hr htb hl hp hg.1
end
end Go.Proofs.YtcidldomnifdeaaDoor

/- What the rows of tied cards share: the builder that hands on both the listed variables and the world's shape. -/
namespace Go.Proofs.YtcidldomnifdeaaDoor
open Go.RowKit Go.ChangeShapes Go.WideShapes Go.ChangeAt Go.Lib

section
variable {H : Type} {enc : TypeId × Value → H}
theorem lift_tied {a : Assume} {C : Checked} {os : Os} {f : FuncId} {fn : Func} {s : ChangeSpec} {conds : List PathCond} {apart fresh handsOn again : Bool} {X : World → Array Value → Prop}
    (hX : ∀ (w w' : World) (args : Array Value), w.heap = w'.heap → X w args → X w' args)
    (own : ownKnob C.prog.godebug = none) (started : os.Started) (noInit : C.prog.inits.idxOf? f = none) (hfn : C.prog.funcs[f]? = some fn)
    (witness : ∃ (w : World) (tape : Tape) (i : Input), w.os = os ∧ (w.forCall tape i).Shaped C.prog ∧ i.vars = [] ∧ Input.okWide C.prog (w.forCall tape i) .any w.heap.size f i ∧
      ((s.pre enc C.prog fn conds apart (w.forCall tape i).memory i.args ∧ X (w.forCall tape i).memory i.args) ∧ sizedMet enc C.prog fn (OpenSpec.ofChange s) apart (w.forCall tape i).memory i.args) ∧ a.holds C.prog (lone (Frame.enter C.prog f i.args .normal) [] (w.forCall tape i)))
    (contract : ∀ (W : World) (base : Nat) (args : Array Value) (ds gs : List (DataW H)) (before : List MemPlace),
      (∀ (j : Nat) t v, fn.params[j]? = some t → args[j]? = some v → Value.okWide C.prog W .any base t v) →
      DataW.Whole enc C.prog fn.params.toList s.vars apart W args.toList ds gs before →
      (DataW.weightsEach C.prog (fn.params.toList ++ s.plain.varTypes C.prog) (ds ++ gs)).all (· ≤ reachBytes) = true → X W args → W.ShapedOpen C.prog →
      Calls C.prog f args W fun e W' => ∃ v, e = .returned v ∧ s.post enc C.prog fn apart fresh handsOn again W args v W') :
    ReturnsInHanded a C os f .any (fun w args => (s.pre enc C.prog fn conds apart w args ∧ X w args) ∧ sizedMet enc C.prog fn (OpenSpec.ofChange s) apart w args) (s.post enc C.prog fn apart fresh handsOn again) := by
  refine returnsInHanded_of_calls own started noInit witness ?_
  intro w tape i _ hsh _ hok hpre _
  obtain ⟨_, _, _, fn', hfn', _, _, _, _, hval⟩ := hok
  have e : fn' = fn := Option.some.inj (hfn'.symm.trans hfn)
  subst e
  obtain ⟨⟨⟨ds, gs, before, hw, hc⟩, hx⟩, hz⟩ := hpre
  have hw' := DataW.Whole.of_heap (w' := w.forCall tape i) (by rfl) hw
  refine (contract (w.forCall tape i) w.heap.size i.args ds gs before hval hw' (hz.weights hw) (hX _ _ _ (by rfl) hx) hsh).mono fun e W' ⟨v, he, hp⟩ => ?_
  subst he
  exact ChangeSpec.post_blind hp
end
end Go.Proofs.YtcidldomnifdeaaDoor

/- The table of the groups' words, out of what a row lists. -/
namespace Go.Proofs.YtcidldomnifdeaaDoor
open Go.RowKit Go.ChangeShapes Go.WideShapes Go.ChangeAt Go.Lib

theorem arr_cells {H : Type} {enc : TypeId × Value → H} {P : Program} {w : World} {base : Nat} {sp : Nat → Bool} {held : Bool} {fuel : Nat} {t e : TypeId} {n m : Nat} {cs : List Value} {Ds : List (DataW H)} {p : List MemPlace}
    (ht : P.underlying t = some (.array n e)) (hce : P.cellsOf e = m) (hct : P.cellsOf t = n * m)
    (h : DataW.trod enc P w base sp held fuel t cs = some (.agg Ds, p)) : cs.length = n * m ∧ Ds.length = n ∧ ∀ i (hi : i < Ds.length), ∃ (f : Nat) (pl : List MemPlace), DataW.trod enc P w base sp held f e ((cs.drop (i * m)).take m) = some (Ds[i], pl) := by
  cases fuel with
  | zero => simp [DataW.trod] at h
  | succ fuel =>
    simp only [DataW.trod, ht, hce, hct] at h
    split at h
    · rename_i hl
      obtain ⟨xs, hm, hx⟩ := Option.map_eq_some_iff.1 h
      have hxs : xs.map (·.1) = Ds := by
        have := congrArg Prod.fst hx
        simpa using this
      have hxl : xs.length = n := by simpa using mapM_length hm
      refine ⟨hl, by rw [← hxs, List.length_map]; exact hxl, fun i hi => ?_⟩
      have hin : i < n := by rw [← hxs, List.length_map, hxl] at hi; exact hi
      obtain ⟨b, hb, hf⟩ := mapM_at hm i i (by simp [hin])
      refine ⟨fuel, b.2, ?_⟩
      rw [hf]
      congr 1
      refine Prod.ext ?_ rfl
      show b.1 = Ds[i]
      have h2 : (xs.map (·.1))[i]? = some b.1 := by simp [hb]
      rw [hxs, List.getElem?_eq_getElem hi] at h2
      exact (Option.some.inj h2).symm
    · cases h

def tbG : List (List UInt8) := [[], [105, 110, 116, 101, 110, 115, 105, 116, 121], [112, 111, 115, 105, 116, 105, 111, 110], [99, 111, 108, 111, 117, 114], [98, 101, 97, 109]]
theorem laid_tbG {H : Type} : (Rows.laid_cyclorama_fixture_groupWords : DataW H) = .agg (tbG.map fun x => .lit (.string x)) := rfl
theorem cellsGw1 : Tryd.prog.cellsOf 9 = 1 := by kernel_rfl
theorem cellsGw5 : Tryd.prog.cellsOf 102 = 5 * 1 := by kernel_rfl
set_option maxRecDepth 100000 in
theorem gw_at {W : World} {rest : List (String × DataW Unit)} (h : laidMet Tryd.prog (("cyclorama/fixture.groupWords", Rows.laid_cyclorama_fixture_groupWords) :: rest) W) : GwAt W := by
  obtain ⟨ps, ⟨g', t', cs, fuel, p, q, hg', ht', hvar, hd, _, _⟩, _⟩ := h
  have hg : Tryd.prog.globalNamed "cyclorama/fixture.groupWords" = some 0 := by kernel_rfl
  have ht : (Tryd.prog.globals[0]?).map (·.type) = some 102 := by kernel_rfl
  obtain rfl := Option.some.inj (hg.symm.trans hg')
  obtain rfl := Option.some.inj (ht.symm.trans ht')
  rw [laid_tbG] at hd
  obtain ⟨hl, hD, hel⟩ := arr_cells Tryd.underlying102 cellsGw1 cellsGw5 hd
  intro k h9
  have hk : k < (tbG.map fun x => (DataW.lit (.string x) : DataW Unit)).length := by rw [List.length_map]; show k < 5; omega
  obtain ⟨f, pl, hf⟩ := hel k hk
  rw [List.getElem_map] at hf
  obtain ⟨s, hc, hy, _⟩ := DataW.trod_string Tryd.underlying9 hf
  have hs : s.data.toList = tbG[k]'(by simpa using hk) := by
    have := congrArg Prod.fst hy
    simpa using this.symm
  have hx : tbG[k]'(by simpa using hk) = gW k := by
    have key : k = 0 ∨ k = 1 ∨ k = 2 ∨ k = 3 ∨ k = 4 := by omega
    rcases key with rfl | rfl | rfl | rfl | rfl <;> rfl
  have hb : bs (gW k) = s := by rw [← hx, ← hs, bs_of]
  rw [World.var?_cell hg hvar k, hb]
  have := congrArg (·[0]?) hc
  simpa [← Array.getElem?_toList] using this
theorem pow_atG {W : World} {rest : List (String × DataW Unit)} (h : laidMet Tryd.prog (("internal/strconv.uint64pow10", Rows.laid_internal_strconv_uint64pow10) :: rest) W) : PowAt W :=
  tabIs_of_head (g := 1) (t := 176) (e := 138) (n := 20) (by kernel_rfl) (by kernel_rfl) Tryd.underlying176 Tryd.underlying138 (by kernel_rfl) (by kernel_rfl) h
end Go.Proofs.YtcidldomnifdeaaDoor

/- Slices of structs that come in, opened element by element, whatever the elements are. -/
namespace Go.Proofs.YtcidldomnifdeaaDoor
open Go.RowKit Go.ChangeShapes Go.WideShapes Go.ChangeAt Go.Deep
section
variable {H : Type} {enc : TypeId × Value → H} {w : World} {base : Nat} {spare : Nat → Bool} {held : Bool}

/-- v is a row of elements of k cells, each as C says. -/
def RowOf {α : Type} (C : α → List Value → Prop) (k : Nat) (w : World) (v : Value) (L : List α) : Prop := ∃ (o : Option Addr) (cap : Nat), v = .slice o L.length cap ∧ (L.length ≤ cap ∧ cap ≤ 9223372036854775807) ∧
  (0 < L.length → ∃ b off, o = some ⟨b, off, none⟩ ∧ ∀ i (hi : i < L.length), ∃ cs : List Value, C L[i] cs ∧ cs.length = k ∧ ∀ j, j < k → w.cell? ⟨b, off + i * k + j, none⟩ = cs[j]?)
theorem RowOf.nil {α : Type} (C : α → List Value → Prop) (k : Nat) (w : World) (o : Option Addr) (cap : Nat) (h : cap ≤ 9223372036854775807) : RowOf C k w (.slice o 0 cap) [] :=
  ⟨o, cap, rfl, ⟨Nat.zero_le _, h⟩, fun hp => absurd hp (by simp)⟩
theorem open_rows {P : Program} {α : Type} (C : α → List Value → Prop) (st et : TypeId) (ht : P.underlying st = some (.slice et)) (k : Nat) (hk : P.cellsOf et = k) (h0k : 0 < k)
    (one : ∀ (n : Nat) (cs : List Value) (y : DataW H × List MemPlace), DataW.trod enc P w base spare held n et cs = some y → ∃ e : α, C e cs)
    {n : Nat} {v : Value} {y : DataW H × List MemPlace} (h : DataW.trod enc P w base spare held n st [v] = some y) :
    ∃ L, RowOf C k w v L ∧ ∀ e ∈ L, ∃ cs, C e cs := by
  rcases open_slice ht h with ⟨hv, _⟩ | ⟨a, len, cap, m, n', D, Pl, hcs, _, hl, hm, hmm, _, hi⟩
  · obtain rfl : v = .slice none 0 0 := by simpa using hv
    exact ⟨[], RowOf.nil C k w _ _ (by omega), fun x hx => by cases hx⟩
  · obtain rfl : v = .slice (some a) len cap := by simpa using hcs
    have hle : len ≤ m := by rw [hmm]; split <;> omega
    have hcap : cap ≤ 9223372036854775807 := by unfold maxLen at hm; omega
    have each : ∀ i, i < len → ∃ x : α × List Value, C x.1 x.2 ∧ x.2.length = k ∧ ∀ j, j < k → w.cell? ((a.add (i * k)).add j) = x.2[j]? := by
      intro i hil
      obtain ⟨cs', h1, h2⟩ := hi i (by omega)
      rw [hk] at h1
      obtain ⟨_, hlen, hget⟩ := World.cells?_some h1
      obtain ⟨e, he⟩ := one _ _ _ h2
      exact ⟨(e, cs'), he, hlen, hget⟩
    rcases Nat.eq_zero_or_pos len with h0 | h0
    · subst h0
      exact ⟨[], RowOf.nil C k w _ _ hcap, fun x hx => by cases hx⟩
    · obtain ⟨x0, _⟩ := each 0 h0
      have : Inhabited (α × List Value) := ⟨x0⟩
      obtain ⟨f, hf⟩ := choose_lt each
      obtain ⟨b, off, spot⟩ := a
      have hspot : spot = none := by
        obtain ⟨_, g1, g2⟩ := hf 0 h0
        have g3 := g2 0 h0k
        rw [List.getElem?_eq_getElem (by omega)] at g3
        simpa [Addr.add] using World.cell?_spot g3
      subst hspot
      have hlen : ((List.range len).map fun i => (f i).1).length = len := by simp
      refine ⟨(List.range len).map fun i => (f i).1, ⟨some ⟨b, off, none⟩, cap, by rw [hlen], ⟨by rw [hlen]; exact hl, hcap⟩, fun _ => ⟨b, off, rfl, fun i hi => ?_⟩⟩, fun x hx => ?_⟩
      · rw [hlen] at hi
        have hget : ((List.range len).map fun i => (f i).1)[i]'(by rw [hlen]; exact hi) = (f i).1 := by simp
        rw [hget]
        obtain ⟨h1, h2, h3⟩ := hf i hi
        refine ⟨(f i).2, h1, h2, fun j hj => ?_⟩
        have := h3 j hj
        rwa [add_plain, add_plain] at this
      · obtain ⟨i, hi, rfl⟩ := List.mem_map.1 hx
        exact ⟨_, (hf i (List.mem_range.1 hi)).1⟩
end
end Go.Proofs.YtcidldomnifdeaaDoor

/- Profiles that come in, opened. -/
namespace Go.Proofs.YtcidldomnifdeaaDoor
open Go.RowKit Go.ChangeShapes Go.WideShapes Go.ChangeAt Go.Deep
section
variable {H : Type} {enc : TypeId × Value → H} {w : World} {base : Nat} {spare : Nat → Bool} {held : Bool}

theorem cellsFI : Tryd.prog.cellsOf 3 = 1 := by kernel_rfl
theorem cellsFS : Tryd.prog.cellsOf 9 = 1 := by kernel_rfl
theorem cellsFB : Tryd.prog.cellsOf 4 = 1 := by kernel_rfl
theorem cellsFR : Tryd.prog.cellsOf 67 = 3 := by kernel_rfl
theorem cellsFP : Tryd.prog.cellsOf 46 = 7 := by kernel_rfl
theorem cellsFF : Tryd.prog.cellsOf 29 = 3 := by kernel_rfl
theorem cellsFRs : Tryd.prog.cellsOf 44 = 1 := by kernel_rfl
theorem cellsFPs : Tryd.prog.cellsOf 27 = 1 := by kernel_rfl

def RngC (e : Rng) (cs : List Value) : Prop := cs = [.int .i64 e.lo, .int .i64 e.hi, .string e.name] ∧ e.name.size ≤ 9223372036854775807
set_option maxRecDepth 100000 in
theorem open_rng (n : Nat) (cs : List Value) (y : DataW H × List MemPlace) (h : DataW.trod enc Tryd.prog w base spare held n 67 cs = some y) : ∃ e, RngC e cs := by
  obtain ⟨ys, n2, _, _, hcl, hyl, hf⟩ := DataW.trod_struct Tryd.underlying67 h
  rw [cellsFR] at hcl
  match cs, hcl with
  | [c0, c1, c2], _ =>
    have f0 : DataW.trod enc Tryd.prog w base spare held n2 3 (([c0, c1, c2].drop 0).take (Tryd.prog.cellsOf 3)) = ys[0]? := hf 0 _ rfl
    have f1 : DataW.trod enc Tryd.prog w base spare held n2 3 (([c0, c1, c2].drop 1).take (Tryd.prog.cellsOf 3)) = ys[1]? := hf 1 _ rfl
    have f2 : DataW.trod enc Tryd.prog w base spare held n2 9 (([c0, c1, c2].drop 2).take (Tryd.prog.cellsOf 9)) = ys[2]? := hf 2 _ rfl
    simp only [cellsFI, cellsFS, List.drop_zero, List.take_succ_cons, List.take_zero, List.drop_succ_cons] at f0 f1 f2
    have hyl2 : ys.length = 3 := hyl
    rw [List.getElem?_eq_getElem (by omega)] at f0 f1 f2
    obtain ⟨z0, e0, _, _⟩ := DataW.trod_int Tryd.underlying3 f0
    obtain ⟨z1, e1, _, _⟩ := DataW.trod_int Tryd.underlying3 f1
    obtain ⟨z2, e2, _, w2⟩ := DataW.trod_string Tryd.underlying9 f2
    simp only [List.cons.injEq, and_true] at e0 e1 e2
    subst e0 e1 e2
    exact ⟨⟨z0, z1, z2⟩, rfl, by unfold maxLen at w2; simp only; omega⟩
theorem rng_of_row {v : Value} {L : List Rng} (h : RowOf RngC 3 w v L) : RngVal w v L := by
  obtain ⟨o, cap, h1, h2, h3⟩ := h
  refine ⟨o, cap, h1, h2, fun hp => ?_⟩
  obtain ⟨b, off, h4, h5⟩ := h3 hp
  refine ⟨b, off, h4, fun i hi => ?_⟩
  obtain ⟨cs, ⟨rfl, _⟩, _, h6⟩ := h5 i hi
  exact ⟨h6 0 (by omega), h6 1 (by omega), h6 2 (by omega)⟩
set_option maxRecDepth 100000 in
theorem open_rngs {n : Nat} {v : Value} {y : DataW H × List MemPlace} (h : DataW.trod enc Tryd.prog w base spare held n 44 [v] = some y) : ∃ L, RngVal w v L ∧ RngsOk L := by
  obtain ⟨L, h1, h2⟩ := open_rows RngC 44 67 Tryd.underlying44 3 cellsFR (by omega) open_rng h
  exact ⟨L, rng_of_row h1, fun e he => by obtain ⟨_, _, h3⟩ := h2 e he; exact h3⟩
def ParC (w : World) (e : Par) (cs : List Value) : Prop := ∃ v, cs = [.string e.name, .int .i64 e.grp, .int .i64 e.slot, .int .i64 e.fine, .int .i64 e.dflt, .bool e.snap, v] ∧ RngVal w v e.rs ∧ ParOk e
set_option maxRecDepth 100000 in
theorem open_par (n : Nat) (cs : List Value) (y : DataW H × List MemPlace) (h : DataW.trod enc Tryd.prog w base spare held n 46 cs = some y) : ∃ e, ParC w e cs := by
  obtain ⟨ys, n2, _, _, hcl, hyl, hf⟩ := DataW.trod_struct Tryd.underlying46 h
  rw [cellsFP] at hcl
  match cs, hcl with
  | [c0, c1, c2, c3, c4, c5, c6], _ =>
    have f0 : DataW.trod enc Tryd.prog w base spare held n2 9 (([c0, c1, c2, c3, c4, c5, c6].drop 0).take (Tryd.prog.cellsOf 9)) = ys[0]? := hf 0 _ rfl
    have f1 : DataW.trod enc Tryd.prog w base spare held n2 3 (([c0, c1, c2, c3, c4, c5, c6].drop 1).take (Tryd.prog.cellsOf 3)) = ys[1]? := hf 1 _ rfl
    have f2 : DataW.trod enc Tryd.prog w base spare held n2 3 (([c0, c1, c2, c3, c4, c5, c6].drop 2).take (Tryd.prog.cellsOf 3)) = ys[2]? := hf 2 _ rfl
    have f3 : DataW.trod enc Tryd.prog w base spare held n2 3 (([c0, c1, c2, c3, c4, c5, c6].drop 3).take (Tryd.prog.cellsOf 3)) = ys[3]? := hf 3 _ rfl
    have f4 : DataW.trod enc Tryd.prog w base spare held n2 3 (([c0, c1, c2, c3, c4, c5, c6].drop 4).take (Tryd.prog.cellsOf 3)) = ys[4]? := hf 4 _ rfl
    have f5 : DataW.trod enc Tryd.prog w base spare held n2 4 (([c0, c1, c2, c3, c4, c5, c6].drop 5).take (Tryd.prog.cellsOf 4)) = ys[5]? := hf 5 _ rfl
    have f6 : DataW.trod enc Tryd.prog w base spare held n2 44 (([c0, c1, c2, c3, c4, c5, c6].drop 6).take (Tryd.prog.cellsOf 44)) = ys[6]? := hf 6 _ rfl
    simp only [cellsFI, cellsFS, cellsFB, cellsFRs, List.drop_zero, List.take_succ_cons, List.take_zero, List.drop_succ_cons] at f0 f1 f2 f3 f4 f5 f6
    have hyl2 : ys.length = 7 := hyl
    rw [List.getElem?_eq_getElem (by omega)] at f0 f1 f2 f3 f4 f5 f6
    obtain ⟨z0, e0, _, w0⟩ := DataW.trod_string Tryd.underlying9 f0
    obtain ⟨z1, e1, _, _⟩ := DataW.trod_int Tryd.underlying3 f1
    obtain ⟨z2, e2, _, _⟩ := DataW.trod_int Tryd.underlying3 f2
    obtain ⟨z3, e3, _, _⟩ := DataW.trod_int Tryd.underlying3 f3
    obtain ⟨z4, e4, _, _⟩ := DataW.trod_int Tryd.underlying3 f4
    obtain ⟨z5, e5, _⟩ := DataW.trod_bool Tryd.underlying4 f5
    obtain ⟨L, h6, h7⟩ := open_rngs f6
    simp only [List.cons.injEq, and_true] at e0 e1 e2 e3 e4 e5
    subst e0 e1 e2 e3 e4 e5
    exact ⟨⟨z0, z1, z2, z3, z4, z5, L⟩, c6, rfl, h6, by unfold maxLen at w0; simp only; omega, h7⟩
theorem par_of_row {v : Value} {L : List Par} (h : RowOf (ParC w) 7 w v L) : ParVal w v L := by
  obtain ⟨o, cap, h1, h2, h3⟩ := h
  refine ⟨o, cap, h1, h2, fun hp => ?_⟩
  obtain ⟨b, off, h4, h5⟩ := h3 hp
  refine ⟨b, off, h4, fun i hi => ?_⟩
  obtain ⟨cs, ⟨u, rfl, hr, _⟩, _, h6⟩ := h5 i hi
  exact ⟨u, ⟨h6 0 (by omega), h6 1 (by omega), h6 2 (by omega), h6 3 (by omega), h6 4 (by omega), h6 5 (by omega), h6 6 (by omega)⟩, hr⟩
set_option maxRecDepth 100000 in
theorem open_pars {n : Nat} {v : Value} {y : DataW H × List MemPlace} (h : DataW.trod enc Tryd.prog w base spare held n 27 [v] = some y) : ∃ L, ParVal w v L ∧ ∀ p ∈ L, ParOk p := by
  obtain ⟨L, h1, h2⟩ := open_rows (ParC w) 27 46 Tryd.underlying27 7 cellsFP (by omega) open_par h
  exact ⟨L, par_of_row h1, fun e he => by obtain ⟨_, _, _, _, h3⟩ := h2 e he; exact h3⟩
def ProfC (w : World) (e : Prof) (cs : List Value) : Prop := ∃ v, cs = [.string e.name, .int .i64 e.size, v] ∧ ParVal w v e.ps ∧ ProfOk e
set_option maxRecDepth 100000 in
theorem open_prof (n : Nat) (cs : List Value) (y : DataW H × List MemPlace) (h : DataW.trod enc Tryd.prog w base spare held n 29 cs = some y) : ∃ e, ProfC w e cs := by
  obtain ⟨ys, n2, _, _, hcl, hyl, hf⟩ := DataW.trod_struct Tryd.underlying29 h
  rw [cellsFF] at hcl
  match cs, hcl with
  | [c0, c1, c2], _ =>
    have f0 : DataW.trod enc Tryd.prog w base spare held n2 9 (([c0, c1, c2].drop 0).take (Tryd.prog.cellsOf 9)) = ys[0]? := hf 0 _ rfl
    have f1 : DataW.trod enc Tryd.prog w base spare held n2 3 (([c0, c1, c2].drop 1).take (Tryd.prog.cellsOf 3)) = ys[1]? := hf 1 _ rfl
    have f2 : DataW.trod enc Tryd.prog w base spare held n2 27 (([c0, c1, c2].drop 2).take (Tryd.prog.cellsOf 27)) = ys[2]? := hf 2 _ rfl
    simp only [cellsFI, cellsFS, cellsFPs, List.drop_zero, List.take_succ_cons, List.take_zero, List.drop_succ_cons] at f0 f1 f2
    have hyl2 : ys.length = 3 := hyl
    rw [List.getElem?_eq_getElem (by omega)] at f0 f1 f2
    obtain ⟨z0, e0, _, w0⟩ := DataW.trod_string Tryd.underlying9 f0
    obtain ⟨z1, e1, _, _⟩ := DataW.trod_int Tryd.underlying3 f1
    obtain ⟨L, h6, h7⟩ := open_pars f2
    simp only [List.cons.injEq, and_true] at e0 e1
    subst e0 e1
    exact ⟨⟨z0, z1, L⟩, c2, rfl, h6, by unfold maxLen at w0; simp only; omega, h7⟩
theorem prof_of_row {v : Value} {L : List Prof} (h : RowOf (ProfC w) 3 w v L) : ProfVal w v L := by
  obtain ⟨o, cap, h1, h2, h3⟩ := h
  refine ⟨o, cap, h1, h2, fun hp => ?_⟩
  obtain ⟨b, off, h4, h5⟩ := h3 hp
  refine ⟨b, off, h4, fun i hi => ?_⟩
  obtain ⟨cs, ⟨u, rfl, hr, _⟩, _, h6⟩ := h5 i hi
  exact ⟨u, ⟨h6 0 (by omega), h6 1 (by omega), h6 2 (by omega)⟩, hr⟩
set_option maxRecDepth 100000 in
theorem open_profs {r : Reach} {b0 : Nat} {v : Value} {d : DataW H} {p : List MemPlace} (hv : Value.okWide Tryd.prog w r b0 22 v) (h : DataW.Trod enc Tryd.prog w base spare held 22 v d p) : ∃ L, ProfVal w v L ∧ ∀ f ∈ L, ProfOk f := by
  obtain ⟨n, hn⟩ := h
  obtain ⟨o, len, cap, rfl⟩ := okWide_slice Tryd.underlying22 hv
  obtain ⟨L, h1, h2⟩ := open_rows (ProfC w) 22 29 Tryd.underlying22 3 cellsFF (by omega) open_prof hn
  exact ⟨L, prof_of_row h1, fun e he => by obtain ⟨_, _, _, _, h3⟩ := h2 e he; exact h3⟩
end
end Go.Proofs.YtcidldomnifdeaaDoor

namespace Go.Proofs.YtcidldomnifdeaaDoor.libraries
open Go.ChangeShapes Go.WideShapes Go.ChangeAt Go.RowKit Go.Sort Go.Lib

set_option maxRecDepth 100000 in
set_option maxHeartbeats 12800000 in
theorem walk (v : Value) (L : List Prof) (s t : ByteArray) (w : World) (hv : ProfVal w v L) (hok : ∀ f ∈ L, ProfOk f) (hpw : PowAt w) (hgw : GwAt w) :
    Calls Tryd.prog 3 #[v, .string s, .string t] w fun e w' => e = .returned (.bool true) ∧ Bl w w' := by
  have H1 := Lib.hid (fun w' (m : Bl w w') => text_any v L w' (hv.bl m) hok (hpw.bl m) (hgw.bl m))
  have H2 := Lib.hid (fun w' (m : Bl w w') => textR_any v L w' (hv.bl m) hok (hpw.bl m))
  have H3 := Lib.hid (fun w' (m : Bl w w') => checkLibrary_any v L w' (hv.bl m) hok)
  have H4 := Lib.hid (fun w' (m : Bl w w') => checkLibrary_ref v L w' (hv.bl m) hok)
  have HV := Lib.hid hv
  have HO := Lib.hid hok
  obtain ⟨o, cap, rfl, _, _⟩ := hv
  generalize bs (fxR L) = S at H1 H2
  generalize fxX L = X at H1 H2
  generalize ckLib L = Y at H3 H4
  have t1 : (Y != Y) = false := by simp
  have t2 : (X != X) = false := by simp
  have t3 : (S.toList != S.toList) = false := by simp
  have t4 : (S.toList == S.toList) = true := by simp
  clear hok hpw hgw
  go_enter Tryd.func3, Tryd.ntmps3
  go_wp2_with (first
    | (go_at_call 6; refine (H1.out _ (Bl.refl w)).mono ?_; rintro e w1 ⟨rfl, b1⟩)
    | (go_at_call 7; refine (H2.out _ b1).mono ?_; rintro e w2 ⟨rfl, m2⟩; have b2 := b1.trans m2)
    | (go_at_call 8; refine (H3.out _ b2).mono ?_; rintro e w3 ⟨rfl, m3⟩; have b3 := b2.trans m3)
    | (go_at_call 9; refine (H4.out _ b3).mono ?_; rintro e w4 ⟨rfl, m4⟩; have B4 := Lib.hid (b3.trans m4)))
  clear H1 H2 H3 H4 b1 b2 b3 m2 m3 m4
  go_loopw [44] (fun vi wr => ∃ k : Nat, k ≤ L.length ∧ vi = .int .i64 k ∧ Hid (Bl w wr)) (fun vi _ => L.length - (intOf vi).toNat)
  case atStart => exact ⟨0, Nat.zero_le _, rfl, B4.out⟩
  case round =>
    obtain ⟨k, hk, rfl, HB⟩ := hrel
    rename World => wr
    by_cases hlt : k < L.length
    · obtain ⟨o', c', ev, _, hp'⟩ := HV.out
      obtain ⟨rfl, rfl⟩ : o = o' ∧ cap = c' := by cases ev; exact ⟨rfl, rfl⟩
      clear ev
      obtain ⟨b, off, rfl, hL⟩ := hp' (by omega)
      clear hp'
      obtain ⟨vp, hcel, hpv⟩ := hL k hlt
      obtain ⟨c0, c1, c2⟩ := hcel.bl HB.out
      clear hcel
      have hfo := HO.out L[k] (List.getElem_mem hlt)
      obtain ⟨x, hx⟩ : ∃ x, x = L[k] := ⟨_, rfl⟩
      rw [← hx] at c0 c1 hfo hpv
      clear hx hL
      have H5 := Lib.hid (fun w' (m : Bl w w') => named_any x vp s t w' (hpv.bl m) hfo)
      have H6 := Lib.hid (fun w' (m : Bl w w') => named_ref x vp s t w' (hpv.bl m) hfo)
      have H7 := Lib.hid (fun w' (m : Bl w w') => checkProfile_any x vp w' (hpv.bl m) hfo)
      have H8 := Lib.hid (fun w' (m : Bl w w') => checkProfile_ref x vp w' (hpv.bl m) hfo)
      obtain ⟨op, cp, evp⟩ : ∃ o c, vp = .slice o x.ps.length c := by obtain ⟨o, c, e, _⟩ := hpv; exact ⟨o, c, e⟩
      subst evp
      clear hpv hfo
      have k1 : (k : Int) < (L.length : Int) := by omega
      generalize nmdV x s.data.toList t.data.toList = N1 at H5 H6
      generalize nmdF x s.data.toList t.data.toList = N2 at H5 H6
      generalize ckProf x = C at H7 H8
      have u1 : (N1 != N1) = false := by simp
      have u2 : (N2 != N2) = false := by simp
      have u3 : (C != C) = false := by simp
      obtain ⟨Wy, hWy⟩ : ∃ Wy, wr.alloc (.cells #[.string x.name, .int .i64 x.size, .slice op x.ps.length cp] 29) = Wy := ⟨_, rfl⟩
      have b0 : Bl wr Wy := by rw [← hWy]; exact (Bl.refl wr).alloc _
      have HC := Lib.hid (show ∀ w', Bl Wy w' → CelF w' wr.heap.size 0 x (.slice op x.ps.length cp) from fun w' g => CelF.bl (by rw [← hWy]; exact CelF.new _ _ _ _) g)
      have BW := Lib.hid (HB.out.trans b0)
      obtain ⟨e0, e1, e2⟩ := HC.out _ (Bl.refl _)
      simp only [Nat.zero_add] at e1 e2
      clear b0
      go_wp2_with (first
        | (go_at_call 10; refine (H5.out _ BW.out).mono ?_; rintro e w5 ⟨rfl, m5⟩; clear e0 e1 e2; obtain ⟨e0, e1, e2⟩ := HC.out _ m5; simp only [Nat.zero_add] at e1 e2)
        | (go_at_call 11; refine (H6.out _ (BW.out.trans m5)).mono ?_; rintro e w6 ⟨rfl, m6⟩; have b6 := m5.trans m6; clear e0 e1 e2; obtain ⟨e0, e1, e2⟩ := HC.out _ b6; simp only [Nat.zero_add] at e1 e2))
      have B6 := Lib.hid b6
      have f0 := e0
      have f1 := e1
      have f2 := e2
      have bw6 := BW.out.trans B6.out
      clear m5 m6 b6
      go_region_held3 (fun w' => w'.cell? ⟨wr.heap.size, 0, none⟩ = some (.string x.name) ∧ w'.cell? ⟨wr.heap.size, 1, none⟩ = some (.int .i64 x.size) ∧ w'.cell? ⟨wr.heap.size, 2, none⟩ = some (.slice op x.ps.length cp))
        (refine ⟨Bl.cell (w := w6) ?_ f0, Bl.cell (w := w6) ?_ f1, Bl.cell (w := w6) ?_ f2⟩ <;> (((repeat (first | with_reducible exact Bl.refl _ | with_reducible assumption | with_reducible refine Bl.drew ?_ | with_reducible refine Bl.alloc ?_ _ | with_reducible refine Bl.trans ?_ (by assumption))); done); done))
        (first
          | (go_at_call 12; (with_reducible refine (H7.out _ (bw6.trans ?_)).mono ?_); (focus ((repeat (first | with_reducible exact Bl.refl _ | with_reducible assumption | with_reducible refine Bl.drew ?_ | with_reducible refine Bl.alloc ?_ _ | with_reducible refine Bl.trans ?_ (by assumption))); done)); rintro e' w7 ⟨rfl, m7⟩)
          | (go_at_call 13; (with_reducible refine (H8.out _ (bw6.trans ?_)).mono ?_); (focus ((repeat (first | with_reducible exact Bl.refl _ | with_reducible assumption | with_reducible refine Bl.drew ?_ | with_reducible refine Bl.alloc ?_ _ | with_reducible refine Bl.trans ?_ (by assumption))); done)); rintro e' w8 ⟨rfl, m8⟩))
      all_goals
        go_wp2
        go_roundw
        case rel => exact ⟨k + 1, by omega, by go_num, bw6.trans (by ((repeat (first | with_reducible exact Bl.refl _ | with_reducible assumption | with_reducible refine Bl.drew ?_ | with_reducible refine Bl.alloc ?_ _ | with_reducible refine Bl.trans ?_ (by assumption))); done))⟩
        case measure => simp [intOf]; omega
    · obtain rfl : k = L.length := by omega
      go_wp2
      go_ret
      exact ⟨rfl, HB.out⟩

theorem own : ownKnob Tryd.prog.godebug = none := by kernel_rfl
theorem laid : laidOutB Tryd.prog = true := by kernel_rfl

set_option maxRecDepth 100000 in
theorem lifted (os : Os) (started : os.Started) (H : Type) (enc : TypeId × Value → H) :
    ReturnsInHanded {} Tryd.checked os 3 .any (fun w args => (Rows.fixtureLibrariesMatchSpecSpec.pre enc Tryd.prog Tryd.f3 Rows.fixtureLibrariesMatchSpecRow.domain false w args ∧ laidMetH Tryd.prog Rows.fixtureLibrariesMatchSpecRow.laid w) ∧ sizedMet enc Tryd.prog Tryd.f3 (OpenSpec.ofChange Rows.fixtureLibrariesMatchSpecSpec) false w args) (Rows.fixtureLibrariesMatchSpecSpec.post enc Tryd.prog Tryd.f3 false true false false) := by
  refine lift_tied (C := Tryd.checked) (X := fun w _ => laidMetH Tryd.prog Rows.fixtureLibrariesMatchSpecRow.laid w) (fun _ _ _ hh h => h.of_heap hh) own started (by kernel_rfl) Tryd.func3
    (ChangeSpec.witness_shaped (enc := enc) (C := Tryd.checked) (os := os) (X := fun w _ => laidMetH Tryd.prog Rows.fixtureLibrariesMatchSpecRow.laid w) false (World.laidAll Tryd.prog os Rows.fixtureLibrariesMatchSpecRow.laid) #[.slice none 0 0, .string ⟨#[]⟩, .string ⟨#[]⟩] 8 (World.laidAll_os _ _ _)
      (World.shaped_of_ZipB (by kernel_rfl) (by kernel_rfl)) (by kernel_rfl) (by kernel_rfl) (by kernel_rfl)
      (by rw [MakeChecks.laidMetH_plain _ _ _ (by kernel_rfl)]; exact laidMet_laidAll _ (by kernel_rfl) (by kernel_rfl))) ?_
  intro W base args ds gs before hval0 hW hsz0 hL0 hsh
  have hL : laidMetH Tryd.prog Rows.fixtureLibrariesMatchSpecRow.laid W := hL0
  rw [MakeChecks.laidMetH_plain _ _ _ (by kernel_rfl)] at hL
  have hp0 := pow_atG hL.tail.tail
  have hg0 := gw_at hL.tail.tail.tail.tail
  have hval : ∀ (j : Nat) t v, Tryd.f3.params[j]? = some t → args[j]? = some v → Value.okWide Tryd.prog W .any base t v := hval0
  have hW' := hW
  obtain ⟨p, q, hA0, hV, rfl, hfz, hnd⟩ := hW
  have hA : DataW.TrodAll enc Tryd.prog W 0 (fun _ => true) true Tryd.f3.params.toList args.toList ds p := hA0
  rw [Tryd.params3] at hA hval
  obtain ⟨v0, vs0, d0, ds0, p0, q0, hargs, rfl, rfl, h0, r0⟩ := trodAll_cons hA
  obtain ⟨v1, vs1, d1, ds1, p1, q1, rfl, rfl, rfl, h1, r1⟩ := trodAll_cons r0
  obtain ⟨v2, vs2, d2, ds2, p2, q2, rfl, rfl, rfl, h2, r2⟩ := trodAll_cons r1
  obtain ⟨rfl, rfl, rfl⟩ := trodAll_nil r2
  obtain rfl : args = #[v0, v1, v2] := by cases args; simp_all
  obtain ⟨rfl, rfl⟩ := trodVars_none hV
  obtain ⟨L0, he0, ho0⟩ := open_profs (hval 0 22 v0 rfl rfl) h0
  obtain ⟨s1, rfl, rfl, rfl, w1⟩ := Go.ChangeMaps.open_string Tryd.underlying9 (hval 1 9 v1 rfl rfl) h1
  obtain ⟨s2, rfl, rfl, rfl, w2⟩ := Go.ChangeMaps.open_string Tryd.underlying9 (hval 2 9 v2 rfl rfl) h2
  clear hA0 hval0
  refine (walk v0 L0 s1 s2 W he0 ho0 hp0 hg0).mono fun e W' ⟨he, hg⟩ => ?_
  subst he
  exact ⟨_, rfl, law_old hW' rfl rfl (by kernel_rfl) Tryd.underlying4 laid (by kernel_rfl) hg⟩

theorem over : Rows.fixtureLibrariesMatchSpecRow.holds Tryd.pinned (OpenSpec.ofChange Rows.fixtureLibrariesMatchSpecSpec) :=
  OpenClaim.holds_of_wide 3 Tryd.f3 rfl rfl rfl rfl rfl rfl rfl ⟨rfl, rfl, rfl, rfl, rfl⟩ rfl rfl rfl rfl rfl (by kernel_rfl) Tryd.func3 (by kernel_rfl)
    (of_decide_eq_true (by kernel_rfl)) (by unfold Func.isWrapper; first | (rw [if_pos (by decide +kernel)]; kernel_rfl) | (rw [if_neg (by decide +kernel)]; exact ⟨rfl, rfl⟩))
    (fun os started H enc _ => lifted os started H enc)

/-- The card: the statement. -/
theorem proved : Rows.FixtureLibrariesMatchSpecCardSaid :=
  Claim7.holds_tied_plain_at .later [] [.data, .data, .data, .data, .data, .pinned] true (true, "e183c2e162d836435c9cf36f9426f4060dc5f9a21fd5f8fc1180efa6c59ec8d1") false over (fun _ h => by cases h) (by kernel_rfl) (fun _ h => by cases h) fixtureLibrariesMatchSpec_row_tie rfl ⟨rfl, rfl⟩ (by kernel_rfl) rfl
    (fun f fn hf hfn => by
      obtain rfl : f = 3 := Option.some.inj ((show Tryd.prog.funcNamed "cyclorama/cycloramalaw2.FixtureLibrariesMatchSpec" = some 3 by kernel_rfl).symm.trans hf) |>.symm
      obtain rfl : fn = Tryd.f3 := (Option.some.inj (Tryd.func3.symm.trans hfn)).symm
      exact ⟨by kernel_rfl, fun j t ht => by
        rw [Tryd.params3] at ht
        have hm := Array.mem_of_getElem? ht
        have hall : ((#[22, 9, 9] : Array TypeId).toList.all fun u => !Tryd.prog.wantsStandIn u) = true := by kernel_rfl
        exact (show Tryd.prog.wantsStandIn t = false by simpa using List.all_eq_true.1 hall t (by simpa using hm))⟩)
    (by kernel_rfl)
end Go.Proofs.YtcidldomnifdeaaDoor.libraries

