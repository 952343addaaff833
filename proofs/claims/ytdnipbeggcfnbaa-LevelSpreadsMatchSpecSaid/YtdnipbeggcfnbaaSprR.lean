/- Spread of the reference. -/
import Derived.Test.YtdnipbeggcfnbaaSprP
import Derived.Test.YtdnipbeggcfnbaaLvR
import Derived.Deep.AppendLies
namespace Go.Proofs.Ytdnipbeggcfnbaa
open Go.RowKit

/-- The first levels of a spread. -/
def spPre (l : List Int) (n : Int) (i : Nat) : List Int := (List.range i).map fun (j : Nat) => spAt l n (j : Int)
theorem spPre_next (l : List Int) (n : Int) (i : Nat) : spPre l n (i + 1) = spPre l n i ++ [spAt l n (i : Int)] := by unfold spPre; rw [List.range_succ, List.map_append]; rfl
theorem spPre_end (l : List Int) (n : Nat) : spPre l n n = spL l n := by unfold spPre spL; rw [Int.toNat_natCast]
theorem sp_at0 {l : List Int} {n i : Int} (h : i * ((l.length : Int) - 1) = 0) : spAt l n i = l[0]?.getD 0 := by
  unfold spAt
  have := spG_pos n
  rw [h, Int.zero_emod, Int.zero_ediv, btw_zero (by omega)]; rfl
def SqRel (W : World) (l : List Int) (N : Nat) (v8 v34 : Value) (wr : World) : Prop := ∃ i : Nat, v34 = .int .i64 i ∧ i ≤ N ∧ wr.ownsRow W.heap.size 3 1 v8 i ((spPre l N i).map (Value.int .i64)) ∧ Bl W wr
set_option maxRecDepth 100000 in
set_option maxHeartbeats 3200000 in
theorem spread_rok (b off cap : Nat) (l : List Int) (N : Nat) (w : World) (hcell : ∀ i, i < l.length → w.cell? ⟨b, off + i, none⟩ = some (.int .i64 (l[i]?.getD 0))) (h1 : l.length ≤ 2000) (h2 : l.all isLev = true) (h3 : 1 ≤ l.length) (h5 : N ≤ 2000) :
    Calls Try.prog 25 #[.slice (some ⟨b, off, none⟩) l.length cap, .int .i64 N] w (PSpr l N w) := by
  have e := Lib.hid (sp_good (n := (N : Int)) h1 h2 h3 (by omega) (by omega))
  have HC := Lib.hid hcell
  have HLV := Lib.hid (all_allLev h2)
  have HI := Lib.hid (fun i (hi : i < l.length) w' => show Calls Try.prog 47 #[.int .i64 (l[i]?.getD 0)] w' fun e w'' => e = .returned (.bool true) ∧ w' = w'' from by
    have := isLevel_ref (l[i]?.getD 0) w'
    rwa [all_allLev h2 i hi] at this)
  have HW := Lib.hid (fun w' => show Calls Try.prog 52 #[.int .i64 N, .int .i64 0, .int .i64 2000] w' fun e w'' => e = .returned (.bool true) ∧ w' = w'' from by
    have := within_any N 0 2000 w'
    rwa [show (decide ((0 : Int) ≤ (N : Int)) && decide ((N : Int) ≤ 2000)) = true by simp; omega] at this)
  have hl0 : ((l.length : Int) == 0) = false := beq_eq_false_iff_ne.2 (by omega)
  clear h2 hcell
  unfold PSpr
  go_enter Try.func25, Try.ntmps25
  go_wp2_with fail
  go_loopw [22] (fun v22 wr => ∃ k : Nat, k ≤ l.length ∧ v22 = .int .i64 k ∧ Bl w wr) (fun v22 _ => l.length - (intOf v22).toNat)
  case atStart => exact ⟨0, Nat.zero_le _, rfl, Bl.refl _⟩
  case round =>
    obtain ⟨k, hk, rfl, hb⟩ := hrel
    by_cases hlt : k < l.length
    · have hcell := hb.cell (HC.out k hlt)
      have HI2 := Lib.hid (HI.out k hlt)
      generalize hx : l[k]?.getD 0 = x at *
      clear hx
      have b1 : (0 : Int) ≤ (k : Int) := by omega
      have b2 : (k : Int) < (l.length : Int) := by omega
      go_wp2_with fail
      refine (HI2.out _).mono ?_
      rintro e' w1 ⟨rfl, rfl⟩
      go_wp2_with fail
      go_roundw
      case rel => exact ⟨k + 1, by omega, by go_num, hb⟩
      case measure => simp [intOf]; omega
    · obtain rfl : k = l.length := by omega
      go_wp2_with fail
      refine (HW.out _).mono ?_
      rintro e' w1 ⟨rfl, rfl⟩
      go_wp2_with fail
      go_loopw [8, 34] (fun v8 v34 wr => SqRel w l N v8 v34 wr) (fun _ v34 _ => N - (intOf v34).toNat)
      case atStart => exact ⟨0, rfl, Nat.zero_le _, World.ownsRow_nil _ _ _ _, hb⟩
      case round =>
        obtain ⟨i, rfl, hi, hrow, hbr⟩ := hrel
        by_cases hlt : i < N
        · have HROW := Lib.hid hrow
          have HN := Lib.hid (spPre_next l N i)
          have hbd := sp_bd (n := (N : Int)) (i := (i : Int)) (m := l.length) (by omega) (by omega) (by omega) h3 h1
          clear hrow
          by_cases hN1 : N = 1
          · have HA : Hid (spAt l N i = l[0]?.getD 0) := sp_at0 (by have : i = 0 := by omega
                                                                    subst this; simp)
            have c0 : wr.cell? ⟨b, off, none⟩ = some (.int .i64 (l[0]?.getD 0)) := by have := hbr.cell (HC.out 0 (by omega)); rwa [Nat.add_zero] at this
            have hb1 : ((N : Int) == 1) = true := by simp; omega
            obtain ⟨x0, hx0⟩ : ∃ x0, l[0]?.getD 0 = x0 := ⟨_, rfl⟩
            rw [hx0] at c0 HA
            clear hx0 hbd hN1
            go_wp2_with (at_builtin; refine app_int Try.underlying32 info_i rfl _ _ rfl w _ _ i _ x0 HROW.out rfl rfl (by omega) hbr ?_; intro v' w8 hrow8 hbl8; have HR8 := Lib.hid hrow8; clear hrow8)
            go_roundw
            case rel => exact ⟨i + 1, by go_num, by omega, by rw [HN.out, HA.out]; exact HR8.out, hbl8⟩
            case measure => simp [intOf]; omega
          · have hb1 : ((N : Int) == 1) = false := by simp; omega
            by_cases hL1 : l.length = 1
            · have HA : Hid (spAt l N i = l[0]?.getD 0) := sp_at0 (by rw [hL1]; simp)
              have c0 : wr.cell? ⟨b, off, none⟩ = some (.int .i64 (l[0]?.getD 0)) := by have := hbr.cell (HC.out 0 (by omega)); rwa [Nat.add_zero] at this
              have hb2 : ((l.length : Int) == 1) = true := by simp; omega
              obtain ⟨x0, hx0⟩ : ∃ x0, l[0]?.getD 0 = x0 := ⟨_, rfl⟩
              rw [hx0] at c0 HA
              clear hx0 hbd hN1 hL1
              go_wp2_with (at_builtin; refine app_int Try.underlying32 info_i rfl _ _ rfl w _ _ i _ x0 HROW.out rfl rfl (by omega) hbr ?_; intro v' w8 hrow8 hbl8; have HR8 := Lib.hid hrow8; clear hrow8)
              go_roundw
              case rel => exact ⟨i + 1, by go_num, by omega, by rw [HN.out, HA.out]; exact HR8.out, hbl8⟩
              case measure => simp [intOf]; omega
            · have hb2 : ((l.length : Int) == 1) = false := by simp; omega
              have hG : spG (N : Int) = (N : Int) - 1 := by unfold spG; rw [if_neg (by omega)]
              rw [hG] at hbd
              have g1 : (1 : Int) ≤ (N : Int) - 1 := by omega
              obtain ⟨⟨q0, q1⟩, ⟨k0, k1⟩, ⟨r0, r1⟩, kr⟩ := hbd
              obtain ⟨c, hc⟩ : ∃ c : Nat, (i : Int) * ((l.length : Int) - 1) / ((N : Int) - 1) = c := ⟨((i : Int) * ((l.length : Int) - 1) / ((N : Int) - 1)).toNat, by omega⟩
              obtain ⟨r, hr⟩ : ∃ r, (i : Int) * ((l.length : Int) - 1) % ((N : Int) - 1) = r := ⟨_, rfl⟩
              have HS : Hid (spAt l N i = btw r ((N : Int) - 1) (l[c]?.getD 0) (l[c + 1]?.getD 0)) := by
                show _ = _
                unfold spAt
                rw [hG, hc, hr, Int.toNat_natCast]
              rw [hc] at k0 k1 kr
              rw [hr] at r0 r1 kr
              have hcl : c < l.length := by omega
              obtain ⟨x0, hx0⟩ : ∃ x0, l[c]?.getD 0 = x0 := ⟨_, rfl⟩
              have c0 := hbr.cell (HC.out c hcl)
              have v0 := isLev_iff.1 (HLV.out c hcl)
              rw [hx0] at c0 v0 HS
              obtain ⟨v00, v01⟩ := v0
              have z3 : (0 : Int) ≤ (c : Int) := by omega
              have z4 : (c : Int) < (l.length : Int) := by omega
              clear hG hN1 hL1
              by_cases hk : (c : Int) = (l.length : Int) - 1
              · have hr0 : r = 0 := by
                  by_cases hr0 : 0 < r
                  · have := kr hr0; omega
                  · omega
                have HA : Hid (spAt l N i = x0) := by show _ = x0; rw [HS.out, hr0, btw_zero (by omega)]
                have hkb : ((c : Int) == (l.length : Int) - 1) = true := by simpa using hk
                clear hx0 kr hr0 hk HS
                go_wp2_with (first | (rw [hc]) | (at_builtin; refine app_int Try.underlying32 info_i rfl _ _ rfl w _ _ i _ x0 HROW.out rfl rfl (by omega) hbr ?_; intro v' w8 hrow8 hbl8; have HR8 := Lib.hid hrow8; clear hrow8))
                go_roundw
                case rel => exact ⟨i + 1, by go_num, by omega, by rw [HN.out, HA.out]; exact HR8.out, hbl8⟩
                case measure => simp [intOf]; omega
              · have hkb : ((c : Int) == (l.length : Int) - 1) = false := by simpa using hk
                have hcl1 : c + 1 < l.length := by omega
                obtain ⟨x1, hx1⟩ : ∃ x1, l[c + 1]?.getD 0 = x1 := ⟨_, rfl⟩
                have c1 := hbr.cell (HC.out (c + 1) hcl1)
                have v1 := isLev_iff.1 (HLV.out (c + 1) hcl1)
                rw [hx1] at c1 v1 HS
                obtain ⟨v10, v11⟩ := v1
                have cw0 : w.cell? ⟨b, off + c, none⟩ = some (.int .i64 x0) := by rw [← hx0]; exact HC.out c hcl
                have cw1 : w.cell? ⟨b, off + (c + 1), none⟩ = some (.int .i64 x1) := by rw [← hx1]; exact HC.out (c + 1) hcl1
                clear hx0 hx1 kr hk
                have TP := Lib.hid (fun w' => part_any r ((N : Int) - 1) w' r0 (by omega) (by omega) (by omega))
                have TM := Lib.hid (fun w' v (hv : Fr w' v r ((N : Int) - 1)) => show Calls Try.prog 53 #[.int .i64 x0, .int .i64 x1, v] w' fun e w'' => e = .returned (.int .i64 (btw r ((N : Int) - 1) x0 x1)) ∧ Bl w' w'' from by
                  have := mix_ref x0 x1 v r ((N : Int) - 1) w' hv v00 v01 v10 v11 r0 (by omega) (lt5 (by omega))
                  rwa [mix_btw (N := r) (D := (N : Int) - 1) (by omega) (by omega) rfl] at this)
                go_wp2_with fail
                have z5 : (0 : Int) ≤ (c : Int) + 1 := by omega
                have z6 : IntKind.i64.wrap ((c : Int) + 1) = (c : Int) + 1 := IntWalk.i64_in _ (by omega)
                have z7 : ((c : Int) + 1).toNat = c + 1 := by omega
                have z8 : IntKind.i64.wrap ((N : Int) - 1) = (N : Int) - 1 := IntWalk.i64_in _ (by omega)
                have z9 : (c : Int) + 1 < (l.length : Int) := by omega
                have zt : ((i : Int) * ((l.length : Int) - 1)).tmod ((N : Int) - 1) = r := by rw [IntWalk.rem_in _ _ q0, hr]
                have zw : IntKind.i64.wrap r = r := IntWalk.i64_in _ (by omega)
                have zn : ¬ ((N : Int) - 1 = 0) := by omega
                have znb : ((N : Int) - 1 == 0) = false := beq_eq_false_iff_ne.2 zn
                rw [hc]
                obtain ⟨i0, hi0, hz0, hz1, hz2⟩ := info_parts info_i
                go_region_held3 (fun w' => w'.cell? ⟨b, off + c, none⟩ = some (.int .i64 x0) ∧ w'.cell? ⟨b, off + (c + 1), none⟩ = some (.int .i64 x1))
                  (refine ⟨Bl.cell (w := w) ?_ cw0, Bl.cell (w := w) ?_ cw1⟩ <;> ((repeat (first | with_reducible exact Bl.refl _ | with_reducible assumption | with_reducible refine Bl.drew ?_ | with_reducible refine Bl.alloc ?_ _ | with_reducible refine Bl.trans ?_ (by assumption))); done))
                  (first
                    | (go_at_call 48; refine (TP.out _).mono ?_; rintro e' w6 ⟨v1, rfl, h6, g6⟩; have H6 := Lib.hid h6; clear h6)
                    | (go_at_call 53; refine (TM.out _ _ (H6.out.bl (by ((repeat (first | with_reducible exact Bl.refl _ | with_reducible assumption | with_reducible refine Bl.drew ?_ | with_reducible refine Bl.alloc ?_ _ | with_reducible refine Bl.trans ?_ (by assumption))); done)))).mono ?_; rintro e' w7 ⟨rfl, g7⟩)
                    | (refine step_append_lies _ (by rfl) _ _ _ (by rfl) w.heap.size _ i0 (.int .i64 0) 1 8 Try.underlying32 hi0 hz0 hz1 hz2 (by rfl) (by omega) _ i ((spPre l N i).map (Value.int .i64)) (by rfl) (ownsRow_bl HROW.out (by ((repeat (first | with_reducible exact Bl.refl _ | with_reducible assumption | with_reducible refine Bl.drew ?_ | with_reducible refine Bl.alloc ?_ _ | with_reducible refine Bl.trans ?_ (by assumption))); done))) _ 1 1 [.int .i64 (btw r ((N : Int) - 1) x0 x1)] (by rfl) (by rfl) (by exact World.news_of_block (cs := #[.int .i64 (btw r ((N : Int) - 1) x0 x1)]) (heap_alloc_new _ _)) (fun u hu => by simp at hu; subst hu; rfl) (by omega) (by unfold maxLen; omega) (by omega) (Bl.size (by ((repeat (first | with_reducible exact Bl.refl _ | with_reducible assumption | with_reducible refine Bl.drew ?_ | with_reducible refine Bl.alloc ?_ _ | with_reducible refine Bl.trans ?_ (by assumption))); done))) _ rfl ?_; intro g9 cap9 w9 hown9 hg9 _ _; have hb9 : Bl w w9 := Bl.grown (by ((repeat (first | with_reducible exact Bl.refl _ | with_reducible assumption | with_reducible refine Bl.drew ?_ | with_reducible refine Bl.alloc ?_ _ | with_reducible refine Bl.trans ?_ (by assumption))); done)) hg9 (fun k hk => (World.ownsRow.lt HROW.out k hk).1); have HR9 := Lib.hid hown9; clear hown9 hg9))
                go_wp2
                go_roundw
                case rel => exact ⟨i + 1, by go_num, by omega, by rw [HN.out, List.map_append, HS.out]; exact HR9.out, hb9⟩
                case measure => simp [intOf]; omega
        · obtain rfl : i = N := by omega
          have HSL := Lib.hid (slc_own hrow)
          rw [spPre_end] at HSL
          clear hrow
          go_wp2_with fail
          go_returns
          exact ⟨_, by rw [e.out.1]; rfl, by rw [e.out.2]; exact HSL.out, hbr⟩

set_option maxRecDepth 100000 in
set_option maxHeartbeats 3200000 in
theorem spread_ref (v : Value) (l : List Int) (n : Int) (w : World) (h : Slc w v l) :
    Calls Try.prog 25 #[v, .int .i64 n] w (PSpr l n w) := by
  obtain ⟨o, cap, hv, ⟨hc1, hc2⟩, hcell⟩ := h
  by_cases h1 : 2000 < l.length
  · have e := Lib.hid (sp_bad (l := l) (n := n) (c := 2) (by unfold spX; rw [if_pos h1]) (by decide))
    clear hcell
    unfold PSpr
    subst hv
    go_enter Try.func25, Try.ntmps25
    go_wp2_with fail
    go_returns
    exact ⟨_, by rw [e.out.1]; rfl, by rw [e.out.2]; exact slc_nil _ _ _ (by omega), Bl.refl _⟩
  by_cases h3 : l.length = 0
  · have h2 : l.all isLev = true := by rw [List.eq_nil_of_length_eq_zero h3]; rfl
    have e := Lib.hid (sp_bad (l := l) (n := n) (c := 8) (by unfold spX; rw [if_neg h1, if_neg (by rw [h2]; decide), if_pos h3]) (by decide))
    have hv' : v = .slice o 0 cap := by rw [hv, h3]
    unfold PSpr
    clear hcell h2 hv h3 h1 hc1
    subst hv'
    go_enter Try.func25, Try.ntmps25
    go_wp2_with fail
    go_returns
    exact ⟨_, by rw [e.out.1]; rfl, by rw [e.out.2]; exact slc_nil _ _ _ (by omega), Bl.refl _⟩
  obtain ⟨b, off, rfl, _⟩ := hcell 0 (by omega)
  have hcell' : ∀ i, i < l.length → w.cell? ⟨b, off + i, none⟩ = some (.int .i64 (l[i]?.getD 0)) := fun i hi => by
    obtain ⟨b', off', e', hc⟩ := hcell i hi
    cases e'
    exact hc
  by_cases hgood : l.all isLev = true ∧ 0 ≤ n ∧ n ≤ 2000
  · obtain ⟨h2, h4, h5⟩ := hgood
    obtain ⟨N, hN⟩ : ∃ N : Nat, n = N := ⟨n.toNat, by omega⟩
    subst hN hv
    exact spread_rok b off cap l N w hcell' (by omega) h2 (by omega) (by omega)
  have HC := Lib.hid hcell'
  have HI := Lib.hid (fun n w' => isLevel_ref n w')
  have e : Hid (spX l n = 1 ∧ spR l n = []) := by
    refine sp_bad ?_ (by decide)
    unfold spX
    rw [if_neg h1]
    by_cases h2 : l.all isLev = false
    · rw [if_pos h2]
    · rw [if_neg h2, if_neg h3, if_pos (by
        by_cases hh : 0 ≤ n ∧ n ≤ 2000
        · exact absurd ⟨by simpa using h2, hh⟩ hgood
        · omega)]
  have HW : Hid (l.all isLev = true → ∀ w', Calls Try.prog 52 #[.int .i64 n, .int .i64 0, .int .i64 2000] w' fun e w'' => e = .returned (.bool false) ∧ w' = w'') := by
    intro h2 w'
    have := within_any n 0 2000 w'
    rwa [show (decide ((0 : Int) ≤ n) && decide (n ≤ 2000)) = false by
      rw [Bool.eq_false_iff]
      intro hh
      simp only [Bool.and_eq_true, decide_eq_true_eq] at hh
      exact hgood ⟨h2, hh⟩] at this
  have hl0 : ((l.length : Int) == 0) = false := beq_eq_false_iff_ne.2 (by omega)
  clear hcell hcell' hgood h3
  unfold PSpr
  subst hv
  go_enter Try.func25, Try.ntmps25
  go_wp2_with fail
  go_loopw [22] (fun v22 wr => ∃ k : Nat, k ≤ l.length ∧ v22 = .int .i64 k ∧ Hid (allLev l k) ∧ Bl w wr) (fun v22 _ => l.length - (intOf v22).toNat)
  case atStart => exact ⟨0, Nat.zero_le _, rfl, Lib.hid (fun i hi => absurd hi (Nat.not_lt_zero _)), Bl.refl _⟩
  case round =>
    obtain ⟨k, hk, rfl, HL, hb⟩ := hrel
    by_cases hlt : k < l.length
    · have hcell := hb.cell (HC.out k hlt)
      have b1 : (0 : Int) ≤ (k : Int) := by omega
      have b2 : (k : Int) < (l.length : Int) := by omega
      cases hz : isLev (l[k]?.getD 0) with
      | true =>
        have HI1 := fun w' => HI.out (l[k]?.getD 0) w'
        rw [hz] at HI1
        have HI2 := Lib.hid HI1
        have HZ := Lib.hid hz
        clear hz HI1
        have HN : Hid (allLev l (k + 1)) := fun i hi => by
          by_cases h : i < k
          · exact HL.out i h
          · obtain rfl : i = k := by omega
            exact HZ.out
        clear HZ
        generalize hx : l[k]?.getD 0 = x at *
        clear hx
        go_wp2_with fail
        refine (HI2.out _).mono ?_
        rintro e' w1 ⟨rfl, rfl⟩
        go_wp2_with fail
        go_roundw
        case rel => exact ⟨k + 1, by omega, by go_num, HN, hb⟩
        case measure => simp [intOf]; omega
      | false =>
        have HI1 := fun w' => HI.out (l[k]?.getD 0) w'
        rw [hz] at HI1
        have HI2 := Lib.hid HI1
        clear hz HI1
        generalize hx : l[k]?.getD 0 = x at *
        clear hx
        go_wp2_with fail
        refine (HI2.out _).mono ?_
        rintro e' w1 ⟨rfl, rfl⟩
        go_wp2_with fail
        go_returns
        exact ⟨_, by rw [e.out.1]; rfl, by rw [e.out.2]; exact slc_nil _ _ _ (by omega), hb⟩
    · obtain rfl : k = l.length := by omega
      have HW2 := Lib.hid (HW.out (allLev_all HL.out))
      go_wp2_with fail
      refine (HW2.out _).mono ?_
      rintro e' w1 ⟨rfl, rfl⟩
      go_wp2_with fail
      go_returns
      exact ⟨_, by rw [e.out.1]; rfl, by rw [e.out.2]; exact slc_nil _ _ _ (by omega), hb⟩
end Go.Proofs.Ytdnipbeggcfnbaa
