/- checkParam of the reference. -/
import Derived.Test.YtcidldomnifdeaaDoorFxS
import Derived.Deep.QuietTactic
namespace Go.Proofs.YtcidldomnifdeaaDoor
open Go.RowKit Go.Sort

/-- The end of the range ahead. -/
def aheadR (L : List Rng) (k : Nat) : Int := if k = 0 then -1 else (L.map (·.hi))[k - 1]?.getD 0
theorem aheadR_succ (L : List Rng) (k : Nat) (h : k < L.length) : aheadR L (k + 1) = L[k].hi := by
  unfold aheadR
  rw [if_neg (by omega), show k + 1 - 1 = k by omega, List.getElem?_map, List.getElem?_eq_getElem h]; rfl
theorem has_name {E : List Par} {k : Nat} (h : k < E.length) {l : List UInt8} (e : nmP E[k] = l) : (E.map nmP).contains l = true :=
  List.elem_eq_true_of_mem (List.mem_map.2 ⟨E[k], List.getElem_mem h, e⟩)
theorem no_name {E : List Par} {l : List UInt8} (h : ∀ e ∈ E, nmP e ≠ l) : ¬ (E.map nmP).contains l = true := fun hc => by
  obtain ⟨e, he, hl⟩ := List.mem_map.1 (List.mem_of_elem_eq_true hc)
  exact h e he hl
theorem take_all {α : Type} {P : α → Prop} {L : List α} {k : Nat} (h : k < L.length) (h1 : ∀ e ∈ L.take k, P e) (h2 : P L[k]) : ∀ e ∈ L.take (k + 1), P e := fun e he => by
  rw [List.take_succ_eq_append_getElem h] at he
  rcases List.mem_append.1 he with he | he
  · exact h1 e he
  · obtain rfl := List.mem_singleton.1 he; exact h2

set_option maxRecDepth 100000 in
set_option maxHeartbeats 12800000 in
theorem checkParam_ref (x : Par) (vr v : Value) (E : List Par) (size : Int) (w : World) (hr : RngVal w vr x.rs) (hE : ParVal w v E) (hok : ParOk x) (hokE : ∀ e ∈ E, ParOk e) (hG : ∀ e ∈ E, ParGood size e) :
    Calls Tryd.prog 41 #[.agg #[.string x.name, .int .i64 x.grp, .int .i64 x.slot, .int .i64 x.fine, .int .i64 x.dflt, .bool x.snap, vr], v, .int .i64 size] w fun e w' => e = .returned (.int .i64 (ckPar size (E.map nmP) (E.flatMap slotsOf) x)) ∧ Bl w w' := by
  obtain ⟨hsz, hro⟩ := hok
  obtain ⟨W, hW0⟩ : ∃ W, W = w.alloc (.cells #[.string x.name, .int .i64 x.grp, .int .i64 x.slot, .int .i64 x.fine, .int .i64 x.dflt, .bool x.snap, vr] 46) := ⟨_, rfl⟩
  have bW : Bl w W := by rw [hW0]; exact (Bl.refl w).alloc _
  have HC := Lib.hid (show ∀ w', Bl W w' → CelP w' w.heap.size 0 x vr from fun w' g => CelP.bl (by rw [hW0]; exact CelP.new _ _ _ _) g)
  have HRv := Lib.hid (hr.bl bW)
  have HEv := Lib.hid (hE.bl bW)
  have HG := Lib.hid hG
  have HOE := Lib.hid hokE
  have HRO := Lib.hid hro
  obtain ⟨o, cap, rfl, hcap, _⟩ := hr
  obtain ⟨oe, ce, rfl, hce, _⟩ := hE
  obtain ⟨d0, d1, d2, d3, d4, d5, d6⟩ := HC.out W (Bl.refl _)
  have hW := hW0.symm
  clear hW0 hG hokE hro
  cases h1 : isNm (nmP x) with
  | false =>
    have HN := Lib.hid (fun w => isNmR_is x.name false h1 w hsz)
    have er : Hid (ckPar size (E.map nmP) (E.flatMap slotsOf) x = 5) := by show _ = _; unfold ckPar; rw [if_pos h1]
    clear h1
    go_enter Tryd.func41, Tryd.ntmps41
    go_wp2_with (go_at_call 39; refine (HN.out _).mono ?_; rintro e w1 ⟨rfl, rfl⟩)
    go_returns
    exact ⟨ret_int er.out.symm, bW⟩
  | true =>
  have HN := Lib.hid (fun w => isNmR_is x.name true h1 w hsz)
  have e1 : ¬ isNm (nmP x) = false := by rw [h1]; decide
  have E1 := Lib.hid e1
  clear h1 e1
  go_enter Tryd.func41, Tryd.ntmps41
  go_wp2_with (go_at_call 39; refine (HN.out _).mono ?_; rintro e w1 ⟨rfl, rfl⟩)
  go_loopw [23] (fun vi wr => ∃ k : Nat, k ≤ E.length ∧ vi = .int .i64 k ∧ Hid (∀ e ∈ E.take k, nmP e ≠ nmP x) ∧ Hid (Bl W wr)) (fun vi _ => E.length - (intOf vi).toNat)
  case atStart => exact ⟨0, Nat.zero_le _, rfl, (fun e he => by simp at he), Bl.refl _⟩
  case round =>
    obtain ⟨k, hk, rfl, HK, HB⟩ := hrel
    rename World => wr
    clear d0 d1 d2 d3 d4 d5 d6
    obtain ⟨d0, d1, d2, d3, d4, d5, d6⟩ := HC.out _ HB.out
    have z3 : w.heap.size < wr.heap.size := World.block_lt_of_cell? _ _ d0
    by_cases hlt : k < E.length
    · obtain ⟨o', c', ev, _, hp'⟩ := HEv.out.bl HB.out
      obtain ⟨rfl, rfl⟩ : oe = o' ∧ ce = c' := by cases ev; exact ⟨rfl, rfl⟩
      clear ev
      obtain ⟨b, off, rfl, hL⟩ := hp' (by omega)
      clear hp'
      obtain ⟨vy, hcel, hry⟩ := hL k hlt
      have htk := Lib.hid (fun h2 => take_all hlt HK.out h2)
      have hin := Lib.hid (fun (l : List UInt8) (e : nmP E[k] = l) => has_name hlt e)
      obtain ⟨y, hy⟩ : ∃ y, y = E[k] := ⟨_, rfl⟩
      rw [← hy] at hcel hry htk hin
      clear hy hL
      obtain ⟨oy, cy, evy⟩ : ∃ o c, vy = .slice o y.rs.length c := by obtain ⟨o, c, e, _⟩ := hry; exact ⟨o, c, e⟩
      subst evy
      clear hry
      obtain ⟨c0, c1, c2, c3, c4, c5, c6⟩ := hcel
      have k1 : (k : Int) < (E.length : Int) := by omega
      by_cases hn : nmP y = nmP x
      · have er : Hid (ckPar size (E.map nmP) (E.flatMap slotsOf) x = 6) := by show _ = _; unfold ckPar; rw [if_neg E1.out, if_pos (hin.out _ hn)]
        have hs := str_same (a := y.name) (b := x.name) hn
        clear htk hin hn
        go_wp2
        go_ret
        exact ⟨ret_int er.out.symm, (bW.trans HB.out).alloc _⟩
      · have hn' := Lib.hid (htk.out hn)
        have hs := str_other (a := y.name) (b := x.name) hn
        clear htk hin hn
        go_wp2
        go_roundw
        case rel => exact ⟨k + 1, by omega, by go_num, hn'.out, HB.out.alloc _⟩
        case measure => simp [intOf]; omega
    · obtain rfl : k = E.length := by omega
      have e2 : Hid (¬ (E.map nmP).contains (nmP x) = true) := no_name (by have := HK.out; rwa [List.take_length] at this)
      clear HK
      have ARM := True.intro
      by_cases hg : x.grp < 1 ∨ 4 < x.grp
      · have HWg := Lib.hid (fun w => withinR_is x.grp 1 4 false (btw_false hg) w)
        have er : Hid (ckPar size (E.map nmP) (E.flatMap slotsOf) x = 4) := by show _ = _; unfold ckPar; rw [if_neg E1.out, if_neg e2.out, if_pos hg]
        clear hg
        go_wp2_with (first
          | (go_at_call 40; (with_reducible refine (HWg.out _).mono ?_); rintro e w2 ⟨rfl, rfl⟩))
        go_ret
        exact ⟨ret_int er.out.symm, bW.trans HB.out⟩
      have HWg := Lib.hid (fun w => withinR_is x.grp 1 4 true (btw_true (by omega) (by omega)) w)
      have e3 := Lib.hid hg
      clear hg
      by_cases hs : x.slot < 1 ∨ size < x.slot
      · have HWs := Lib.hid (fun w => withinR_is x.slot 1 size false (btw_false hs) w)
        have er : Hid (ckPar size (E.map nmP) (E.flatMap slotsOf) x = 1) := by
          show _ = _; unfold ckPar; rw [if_neg E1.out, if_neg e2.out, if_neg e3.out, if_pos (hs.elim .inl (fun h => .inr (.inl h)))]
        clear hs
        go_wp2_with (first
          | (go_at_call 40; (with_reducible refine (HWg.out _).mono ?_); rintro e w2 ⟨rfl, rfl⟩)
          | (go_at_call 40; (with_reducible refine (HWs.out _).mono ?_); rintro e w2 ⟨rfl, rfl⟩))
        go_ret
        exact ⟨ret_int er.out.symm, bW.trans HB.out⟩
      have HWs := Lib.hid (fun w => withinR_is x.slot 1 size true (btw_true (by omega) (by omega)) w)
      by_cases hf : x.fine < 0 ∨ size < x.fine
      · have HWf := Lib.hid (fun w => withinR_is x.fine 0 size false (btw_false hf) w)
        have er : Hid (ckPar size (E.map nmP) (E.flatMap slotsOf) x = 1) := by
          show _ = _; unfold ckPar; rw [if_neg E1.out, if_neg e2.out, if_neg e3.out, if_pos (hf.elim (fun h => .inr (.inr (.inl h))) (fun h => .inr (.inr (.inr (.inl h)))))]
        clear hs hf
        go_wp2_with (first
          | (go_at_call 40; (with_reducible refine (HWg.out _).mono ?_); rintro e w2 ⟨rfl, rfl⟩)
          | (go_at_call 40; (with_reducible refine (HWs.out _).mono ?_); rintro e w2 ⟨rfl, rfl⟩)
          | (go_at_call 40; (with_reducible refine (HWf.out _).mono ?_); rintro e w2 ⟨rfl, rfl⟩))
        go_ret
        exact ⟨ret_int er.out.symm, bW.trans HB.out⟩
      have HWf := Lib.hid (fun w => withinR_is x.fine 0 size true (btw_true (by omega) (by omega)) w)
      cases h5 : isLev x.dflt with
      | false =>
        have HLV := Lib.hid (fun w => isLevR_is x.dflt false h5 w)
        have er : Hid (ckPar size (E.map nmP) (E.flatMap slotsOf) x = 1) := by
          show _ = _; unfold ckPar; rw [if_neg E1.out, if_neg e2.out, if_neg e3.out, if_pos (.inr (.inr (.inr (.inr h5))))]
        clear hs hf h5
        go_wp2_with (first
          | (go_at_call 40; (with_reducible refine (HWg.out _).mono ?_); rintro e w2 ⟨rfl, rfl⟩)
          | (go_at_call 40; (with_reducible refine (HWs.out _).mono ?_); rintro e w2 ⟨rfl, rfl⟩)
          | (go_at_call 40; (with_reducible refine (HWf.out _).mono ?_); rintro e w2 ⟨rfl, rfl⟩)
          | (go_at_call 68; (with_reducible refine (HLV.out _).mono ?_); rintro e w2 ⟨rfl, rfl⟩))
        go_ret
        exact ⟨ret_int er.out.symm, bW.trans HB.out⟩
      | true =>
      have HLV := Lib.hid (fun w => isLevR_is x.dflt true h5 w)
      have e4 : Hid (¬ (x.slot < 1 ∨ size < x.slot ∨ x.fine < 0 ∨ size < x.fine ∨ isLev x.dflt = false)) := by
        show ¬ _; rw [h5]; rintro (q | q | q | q | q)
        · exact hs (.inl q)
        · exact hs (.inr q)
        · exact hf (.inl q)
        · exact hf (.inr q)
        · cases q
      clear hs hf h5
      by_cases h6 : x.slot = x.fine
      · have er : Hid (ckPar size (E.map nmP) (E.flatMap slotsOf) x = 12) := by show _ = _; unfold ckPar; rw [if_neg E1.out, if_neg e2.out, if_neg e3.out, if_neg e4.out, if_pos (.inl h6)]
        have h6' : (x.slot == x.fine) = true := by simpa using h6
        clear h6
        go_wp2_with (first
          | (go_at_call 40; (with_reducible refine (HWg.out _).mono ?_); rintro e w2 ⟨rfl, rfl⟩)
          | (go_at_call 40; (with_reducible refine (HWs.out _).mono ?_); rintro e w2 ⟨rfl, rfl⟩)
          | (go_at_call 40; (with_reducible refine (HWf.out _).mono ?_); rintro e w2 ⟨rfl, rfl⟩)
          | (go_at_call 68; (with_reducible refine (HLV.out _).mono ?_); rintro e w2 ⟨rfl, rfl⟩))
        go_ret
        exact ⟨ret_int er.out.symm, bW.trans HB.out⟩
      have h6' : (x.slot == x.fine) = false := by simpa using h6
      have e5 : Hid (¬ x.slot = x.fine) := h6
      clear h6
      go_wp2_with (first
        | (go_at_call 40; (with_reducible refine (HWg.out _).mono ?_); rintro e w2 ⟨rfl, rfl⟩)
        | (go_at_call 40; (with_reducible refine (HWs.out _).mono ?_); rintro e w2 ⟨rfl, rfl⟩)
        | (go_at_call 40; (with_reducible refine (HWf.out _).mono ?_); rintro e w2 ⟨rfl, rfl⟩)
        | (go_at_call 68; (with_reducible refine (HLV.out _).mono ?_); rintro e w2 ⟨rfl, rfl⟩))
      have HB1 := Lib.hid HB.out
      obtain ⟨wq, hwq⟩ : ∃ wq : World, wq = wr := ⟨_, rfl⟩
      subst hwq
      clear HB HWg HWs HWf HLV h6' ARM
      go_loopw [65] (fun vi wr => ∃ k : Nat, k ≤ E.length ∧ vi = .int .i64 k ∧ Hid (noClash x (E.take k)) ∧ Hid (Bl W wr)) (fun vi _ => E.length - (intOf vi).toNat)
      case atStart => exact ⟨0, Nat.zero_le _, rfl, (fun e he => by simp at he), HB1.out⟩
      case round =>
        obtain ⟨k, hk, rfl, HK, HB⟩ := hrel
        rename World => wr
        clear d0 d1 d2 d3 d4 d5 d6
        obtain ⟨d0, d1, d2, d3, d4, d5, d6⟩ := HC.out _ HB.out
        have z3 : w.heap.size < wr.heap.size := World.block_lt_of_cell? _ _ d0
        by_cases hlt : k < E.length
        · obtain ⟨o', c', ev, _, hp'⟩ := HEv.out.bl HB.out
          obtain ⟨rfl, rfl⟩ : oe = o' ∧ ce = c' := by cases ev; exact ⟨rfl, rfl⟩
          clear ev
          obtain ⟨b, off, rfl, hL⟩ := hp' (by omega)
          clear hp'
          obtain ⟨vy, hcel, hry⟩ := hL k hlt
          have htk := Lib.hid (fun h2 => take_all (P := fun e => ∀ s ∈ slotsOf x, (slotsOf e).contains s = false) hlt HK.out h2)
          have hgd := Lib.hid (fun h => (clash_iff x size E HG.out).2 h)
          have hmem := Lib.hid (List.getElem_mem hlt)
          obtain ⟨y, hy⟩ : ∃ y, y = E[k] := ⟨_, rfl⟩
          rw [← hy] at hcel hry htk hmem
          clear hy hL
          obtain ⟨oy, cy, evy⟩ : ∃ o c, vy = .slice o y.rs.length c := by obtain ⟨o, c, e, _⟩ := hry; exact ⟨o, c, e⟩
          subst evy
          clear hry
          obtain ⟨c0, c1, c2, c3, c4, c5, c6⟩ := hcel
          have k1 : (k : Int) < (E.length : Int) := by omega
          obtain ⟨Wy, hWy⟩ : ∃ Wy, Wy = wr.alloc (.cells #[.string y.name, .int .i64 y.grp, .int .i64 y.slot, .int .i64 y.fine, .int .i64 y.dflt, .bool y.snap, .slice oy y.rs.length cy] 46) := ⟨_, rfl⟩
          have bWy : Bl W Wy := by rw [hWy]; exact HB.out.alloc _
          have HCy := Lib.hid (show ∀ w', Bl Wy w' → CelP w' wr.heap.size 0 y (.slice oy y.rs.length cy) from fun w' g => CelP.bl (by rw [hWy]; exact CelP.new _ _ _ _) g)
          have HSx := Lib.hid (fun w' => slotsR_any x o x.rs.length cap w')
          have HSy := Lib.hid (fun w' => slotsR_any y oy y.rs.length cy w')
          have hSl : (slotsOf x).length ≤ 2 := by unfold slotsOf; split <;> simp
          have hSl2 : Hid ((slotsOf y).length ≤ 2) := by show _ ≤ _; unfold slotsOf; split <;> simp
          obtain ⟨Sx, hSx⟩ : ∃ S, S = slotsOf x := ⟨_, rfl⟩
          obtain ⟨Sy, hSy⟩ : ∃ S, S = slotsOf y := ⟨_, rfl⟩
          rw [← hSx] at HSx htk hSl
          rw [← hSy] at HSy htk hSl2
          have HSX := Lib.hid hSx
          have HSY := Lib.hid hSy
          clear hSx hSy
          go_wp2_with (first
            | (go_at_call 69; (try rw [← hWy]); refine (HSx.out _).mono ?_; rintro e w3 ⟨bs1, cs1, rfl, m3, hint⟩; have HIn := Lib.hid hint; clear hint))
          have hSxl : (Sx.length : Int) ≤ 2 := by omega
          go_loopw [72] (fun vj wi => ∃ j : Nat, j ≤ Sx.length ∧ vj = .int .i64 j ∧ Hid (∀ s ∈ Sx.take j, Sy.contains s = false) ∧ Hid (Bl w3 wi)) (fun vj _ => Sx.length - (intOf vj).toNat)
          case atStart => exact ⟨0, Nat.zero_le _, rfl, (fun e he => by simp at he), Bl.refl _⟩
          case round =>
            obtain ⟨j, hj, rfl, HJ, HBi⟩ := hrel
            rename World => wi
            clear d0 d1 d2 d3 d4 d5 d6
            have bWi : Bl Wy wi := m3.trans HBi.out
            obtain ⟨d0, d1, d2, d3, d4, d5, d6⟩ := HC.out _ (bWy.trans bWi)
            obtain ⟨u0, u1, u2, u3, u4, u5, u6⟩ := HCy.out _ bWi
            by_cases hjl : j < Sx.length
            · have q0 : wi.cell? ⟨bs1, j, none⟩ = some (.int .i64 Sx[j]) := by
                have := (HIn.out.bl HBi.out) j hjl
                rw [Nat.zero_add, List.getD_eq_getElem?_getD, List.getElem?_eq_getElem hjl] at this
                exact this
              have htj := Lib.hid (fun h2 => take_all (P := fun s => Sy.contains s = false) hjl HJ.out h2)
              have hjm := Lib.hid (List.getElem_mem hjl)
              obtain ⟨sv, hsv⟩ : ∃ s, s = Sx[j] := ⟨_, rfl⟩
              rw [← hsv] at q0 htj hjm
              clear hsv
              have j1 : (j : Int) < (Sx.length : Int) := by omega
              cases hcn : Sy.contains sv with
              | true =>
                have HCT := Lib.hid (fun b c w h => contR_is b c Sy sv true hcn w hSl2.out h)
                have er : Hid (ckPar size (E.map nmP) (E.flatMap slotsOf) x = 12) := by
                  have hc := hgd.out (fun hn => by
                    have := hn y hmem.out sv (by rw [← HSX.out]; exact hjm.out)
                    rw [← HSY.out, hcn] at this; cases this)
                  show _ = _; unfold ckPar; rw [if_neg E1.out, if_neg e2.out, if_neg e3.out, if_neg e4.out, if_pos (.inr hc)]
                clear htj hcn hjm
                go_wp2_with (first
                  | (go_at_call 69; refine (HSy.out _).mono ?_; rintro e w4 ⟨bs2, cs2, rfl, m4, hint4⟩; have HIn4 := Lib.hid hint4; clear hint4)
                  | (go_at_call 70; refine (HCT.out _ _ _ HIn4.out).mono ?_; rintro e w5 ⟨rfl, rfl⟩))
                go_ret
                exact ⟨ret_int er.out.symm, bW.trans (bWy.trans (bWi.trans m4))⟩
              | false =>
                have HCT := Lib.hid (fun b c w h => contR_is b c Sy sv false hcn w hSl2.out h)
                have hn' := Lib.hid (htj.out hcn)
                clear htj hcn hjm
                go_wp2_with (first
                  | (go_at_call 69; refine (HSy.out _).mono ?_; rintro e w4 ⟨bs2, cs2, rfl, m4, hint4⟩; have HIn4 := Lib.hid hint4; clear hint4)
                  | (go_at_call 70; refine (HCT.out _ _ _ HIn4.out).mono ?_; rintro e w5 ⟨rfl, rfl⟩))
                go_roundw
                case rel => exact ⟨j + 1, by omega, by go_num, hn'.out, HBi.out.trans m4⟩
                case measure => simp [intOf]; omega
            · obtain rfl : j = Sx.length := by omega
              have hn' : Hid (noClash x (E.take (k + 1))) := by
                have h1 := htk.out (by have := HJ.out; rw [List.take_length] at this; exact this)
                show noClash x _; unfold noClash; rw [← HSX.out]; exact h1
              have bfin := Lib.hid (bWy.trans bWi)
              clear HJ htk
              go_wp2
              go_roundw
              case rel => exact ⟨k + 1, by omega, by go_num, hn'.out, bfin.out⟩
              case measure => simp [intOf]; omega
        · obtain rfl : k = E.length := by omega
          have e6 : Hid (¬ (x.slot = x.fine ∨ (E.flatMap slotsOf).contains x.slot = true ∨ (E.flatMap slotsOf).contains x.fine = true)) := by
            show ¬ _
            rintro (h | h)
            · exact e5.out h
            · have hn := HK.out; rw [List.take_length] at hn
              exact (clash_iff x size E HG.out).1 h hn
          clear HK
          by_cases h30 : 30 < x.rs.length
          · have er : Hid (ckPar size (E.map nmP) (E.flatMap slotsOf) x = 2) := by show _ = _; unfold ckPar; rw [if_neg E1.out, if_neg e2.out, if_neg e3.out, if_neg e4.out, if_neg e6.out, if_pos h30]
            have t1 : (30 : Int) < (x.rs.length : Int) := by omega
            clear h30
            go_wp2
            go_ret
            exact ⟨ret_int er.out.symm, bW.trans HB.out⟩
          have er0 : Hid (ckPar size (E.map nmP) (E.flatMap slotsOf) x = ckRngs (-1) [] x.rs) := by show _ = _; unfold ckPar; rw [if_neg E1.out, if_neg e2.out, if_neg e3.out, if_neg e4.out, if_neg e6.out, if_neg h30]
          have t1 : (x.rs.length : Int) ≤ 30 := by omega
          clear h30
          have HB2 := Lib.hid HB.out
          obtain ⟨wq, hwq⟩ : ∃ wq : World, wq = wr := ⟨_, rfl⟩
          subst hwq
          clear HB
          obtain ⟨X, hX⟩ : ∃ X, X = ckPar size (E.map nmP) (E.flatMap slotsOf) x := ⟨_, rfl⟩
          rw [← hX] at er0
          have HX := Lib.hid hX
          clear hX e6 e2 e3 e4 e5 E1
          go_wp2
          go_loopw [89] (fun vi wr => ∃ k : Nat, k ≤ x.rs.length ∧ vi = .int .i64 k ∧ Hid (X = ckRngs (aheadR x.rs k) ((x.rs.take k).map nmR) (x.rs.drop k)) ∧ Hid (Bl W wr)) (fun vi _ => x.rs.length - (intOf vi).toNat)
          case atStart => exact ⟨0, Nat.zero_le _, rfl, er0, HB2.out⟩
          case round =>
            obtain ⟨k, hk, rfl, HK, HB⟩ := hrel
            rename World => wr
            clear d0 d1 d2 d3 d4 d5 d6
            obtain ⟨d0, d1, d2, d3, d4, d5, d6⟩ := HC.out _ HB.out
            have z3 : w.heap.size < wr.heap.size := World.block_lt_of_cell? _ _ d0
            by_cases hlt : k < x.rs.length
            ·
              obtain ⟨o', c', ev, _, hp'⟩ := HRv.out.bl HB.out
              obtain ⟨rfl, rfl⟩ : o = o' ∧ cap = c' := by cases ev; exact ⟨rfl, rfl⟩
              clear ev
              obtain ⟨b, off, rfl, hL⟩ := hp' (by omega)
              clear hp'
              have HLL := Lib.hid hL
              have hstep := Lib.hid (ckRngs_at x.rs k hlt (aheadR x.rs k) ((x.rs.take k).map nmR))
              have hsucc := Lib.hid (aheadR_succ x.rs k hlt)
              have htn : Hid ((x.rs.take (k + 1)).map nmR = (x.rs.take k).map nmR ++ [nmR x.rs[k]]) := by
                show _ = _; rw [List.take_succ_eq_append_getElem hlt, List.map_append]; rfl
              obtain ⟨c0, c1, c2⟩ := hL k hlt
              have hrsz := HRO.out x.rs[k] (List.getElem_mem hlt)
              obtain ⟨r, hrr⟩ : ∃ r, r = x.rs[k] := ⟨_, rfl⟩
              rw [← hrr] at hstep hsucc htn c0 c1 c2 hrsz
              clear hrr hL
              have k1 : (k : Int) < (x.rs.length : Int) := by omega
              have stop : ∀ Y : Int, Y ≠ 0 → ckRng (aheadR x.rs k) ((x.rs.take k).map nmR) r = Y → Hid (X = Y) := fun Y h0 h => by
                show _ = _; rw [HK.out, hstep.out, h, if_neg h0]
              have nxt : ckRng (aheadR x.rs k) ((x.rs.take k).map nmR) r = 0 → Hid (X = ckRngs (aheadR x.rs (k + 1)) ((x.rs.take (k + 1)).map nmR) (x.rs.drop (k + 1))) := fun h => by
                show _ = _; rw [HK.out, hstep.out, if_pos h, hsucc.out, htn.out]
              have bWr : Bl W (wr.alloc (.cells #[.int .i64 r.lo, .int .i64 r.hi, .string r.name] 67)) := HB.out.alloc _
              have BWr := Lib.hid bWr
              have HCr := Lib.hid (show ∀ w', Bl (wr.alloc (.cells #[.int .i64 r.lo, .int .i64 r.hi, .string r.name] 67)) w' → CelR w' wr.heap.size 0 r from fun w' g => CelR.bl (CelR.new _ _ _) g)
              clear hstep HK bWr
              cases h1 : isLev r.lo with
              | false =>
                have HL1 := Lib.hid (fun w => isLevR_is r.lo false h1 w)
                have er := stop 1 (by decide) (by unfold ckRng; rw [if_pos (.inl h1)])
                clear stop nxt h1
                go_wp2_with (first
                  | (go_at_call 68; (with_reducible refine (HL1.out _).mono ?_); rintro e w2 ⟨rfl, rfl⟩))
                go_ret
                exact ⟨ret_int (er.out.symm.trans HX.out), bW.trans BWr.out⟩
              | true =>
              have HL1 := Lib.hid (fun w => isLevR_is r.lo true h1 w)
              cases h2 : isLev r.hi with
              | false =>
                have HL2 := Lib.hid (fun w => isLevR_is r.hi false h2 w)
                have er := stop 1 (by decide) (by unfold ckRng; rw [if_pos (.inr (.inl h2))])
                clear stop nxt h1 h2
                go_wp2_with (first
                  | (go_at_call 68; (with_reducible refine (HL1.out _).mono ?_); rintro e w2 ⟨rfl, rfl⟩)
                  | (go_at_call 68; (with_reducible refine (HL2.out _).mono ?_); rintro e w2 ⟨rfl, rfl⟩))
                go_ret
                exact ⟨ret_int (er.out.symm.trans HX.out), bW.trans BWr.out⟩
              | true =>
              have HL2 := Lib.hid (fun w => isLevR_is r.hi true h2 w)
              by_cases h3 : r.hi < r.lo
              · have er := stop 1 (by decide) (by unfold ckRng; rw [if_pos (.inr (.inr h3))])
                clear stop nxt h1 h2
                go_wp2_with (first
                  | (go_at_call 68; (with_reducible refine (HL1.out _).mono ?_); rintro e w2 ⟨rfl, rfl⟩)
                  | (go_at_call 68; (with_reducible refine (HL2.out _).mono ?_); rintro e w2 ⟨rfl, rfl⟩))
                go_ret
                exact ⟨ret_int (er.out.symm.trans HX.out), bW.trans BWr.out⟩
              have f1 := Lib.hid (show ¬ (isLev r.lo = false ∨ isLev r.hi = false ∨ r.hi < r.lo) by rw [h1, h2]; simpa using h3)
              have h3' : r.lo ≤ r.hi := by omega
              have hlo := (isLev_iff.1 h1).1
              clear h1 h2 h3
              rcases Nat.eq_zero_or_pos k with hk0 | hk0
              · subst hk0
                have ha : aheadR x.rs 0 = -1 := rfl
                have ho : ¬ r.lo ≤ aheadR x.rs 0 := by omega
                simp only [Nat.zero_mul, Nat.add_zero] at c0 c1 c2
                clear ha
                have f2 := Lib.hid ho
                clear ho
                cases h5 : isNm (nmR r) with
                | false =>
                  have HN := Lib.hid (fun w => isNmR_is r.name false h5 w hrsz)
                  have er := stop 5 (by decide) (by unfold ckRng; rw [if_neg f1.out, if_neg f2.out, if_pos h5])
                  clear stop nxt h5
                  go_wp2_with (first
                    | (go_at_call 68; (with_reducible refine (HL1.out _).mono ?_); rintro e w2 ⟨rfl, rfl⟩)
                    | (go_at_call 68; (with_reducible refine (HL2.out _).mono ?_); rintro e w2 ⟨rfl, rfl⟩))
                  go_quiet (fail)
                  go_wp2_with (go_at_call 39; refine (HN.out _).mono ?_; rintro e w2 ⟨rfl, rfl⟩)
                  go_ret
                  exact ⟨ret_int (er.out.symm.trans HX.out), (bW.trans BWr.out).drewN _⟩
                | true =>
                have HN := Lib.hid (fun w => isNmR_is r.name true h5 w hrsz)
                have h6 : ((x.rs.take 0).map nmR).contains (nmR r) = true → Hid (X = 6) := fun h => stop 6 (by decide) (by unfold ckRng; rw [if_neg f1.out, if_neg f2.out, if_neg (by rw [h5]; decide), if_pos h])
                have h7 : ¬ ((x.rs.take 0).map nmR).contains (nmR r) = true → Hid (X = ckRngs (aheadR x.rs (0 + 1)) ((x.rs.take (0 + 1)).map nmR) (x.rs.drop (0 + 1))) := fun h => nxt (by unfold ckRng; rw [if_neg f1.out, if_neg f2.out, if_neg (by rw [h5]; decide), if_neg h])
                have H6 := Lib.hid h6
                have H7 := Lib.hid h7
                clear stop nxt h5 h6 h7
                go_wp2_with (first
                  | (go_at_call 68; (with_reducible refine (HL1.out _).mono ?_); rintro e w2 ⟨rfl, rfl⟩)
                  | (go_at_call 68; (with_reducible refine (HL2.out _).mono ?_); rintro e w2 ⟨rfl, rfl⟩))
                go_quiet (fail)
                go_wp2_with (go_at_call 39; refine (HN.out _).mono ?_; rintro e w2 ⟨rfl, rfl⟩)
                clear HN HL1 HL2
                obtain ⟨W1, hW1⟩ : ∃ W1, W1 = wr.alloc (.cells #[.int .i64 r.lo, .int .i64 r.hi, .string r.name] 67) := ⟨_, rfl⟩
                rw [← hW1] at HCr BWr
                have bW1 : Bl wr W1 := by rw [hW1]; exact (Bl.refl wr).alloc _
                have HL1 := Lib.hid (HLL.out.bl bW1)
                go_loopw [137] (fun vj wi => ∃ j : Nat, j ≤ 0 ∧ vj = .int .i64 j ∧ Hid (∀ e ∈ x.rs.take j, nmR e ≠ nmR r) ∧ Hid (Bl W1 wi)) (fun vj _ => 0 - (intOf vj).toNat)
                case atStart => exact ⟨0, Nat.zero_le _, rfl, (fun e he => by simp at he), (by show Bl W1 _; rw [hW1]; exact (Bl.refl _).drewN _)⟩
                case round =>
                  obtain ⟨j, hj, rfl, HJ, HBi⟩ := hrel
                  rename World => wi
                  by_cases hjk : j < 0
                  · exact absurd hjk (Nat.not_lt_zero _)
                  · obtain rfl : j = 0 := by omega
                    have hno : ¬ ((x.rs.take 0).map nmR).contains (nmR r) = true := fun hc => by
                      obtain ⟨e, he, hl⟩ := List.mem_map.1 (List.mem_of_elem_eq_true hc)
                      exact HJ.out e he hl
                    have hn := H7.out hno
                    have bfin := Lib.hid (BWr.out.trans HBi.out)
                    clear HJ H6 H7 hno
                    go_wp2
                    go_roundw
                    case rel => exact ⟨0 + 1, by omega, by go_num, hn, bfin.out⟩
                    case measure => simp [intOf]; omega
              · obtain ⟨j0, rfl⟩ : ∃ j, k = j + 1 := ⟨k - 1, by omega⟩
                have hjl : j0 < x.rs.length := by omega
                have ha : aheadR x.rs (j0 + 1) = x.rs[j0].hi := aheadR_succ x.rs j0 hjl
                have p1 := ((HLL.out.bl ((Bl.refl wr).alloc (.cells #[.int .i64 r.lo, .int .i64 r.hi, .string r.name] 67))) j0 hjl).2.1
                have hwj : IntKind.i64.wrap (j0 : Int) = (j0 : Int) := IntWalk.i64_in _ (by omega)
                have j1 : (j0 : Int) < (x.rs.length : Int) := by omega
                obtain ⟨pn, hpn⟩ : ∃ p, p = x.rs[j0].hi := ⟨_, rfl⟩
                rw [← hpn] at ha p1
                clear hpn
                by_cases ho : r.lo ≤ aheadR x.rs (j0 + 1)
                · have er := stop 7 (by decide) (by unfold ckRng; rw [if_neg f1.out, if_pos ho])
                  rw [ha] at ho
                  clear stop nxt ha
                  go_wp2_with (first
                    | (go_at_call 68; (with_reducible refine (HL1.out _).mono ?_); rintro e w2 ⟨rfl, rfl⟩)
                    | (go_at_call 68; (with_reducible refine (HL2.out _).mono ?_); rintro e w2 ⟨rfl, rfl⟩))
                  go_quiet (fail)
                  go_wp2
                  go_ret
                  exact ⟨ret_int (er.out.symm.trans HX.out), (bW.trans BWr.out).drewN _⟩
                have ho2 : pn < r.lo := by omega
                clear ha
                have f2 := Lib.hid ho
                clear ho
                cases h5 : isNm (nmR r) with
                | false =>
                  have HN := Lib.hid (fun w => isNmR_is r.name false h5 w hrsz)
                  have er := stop 5 (by decide) (by unfold ckRng; rw [if_neg f1.out, if_neg f2.out, if_pos h5])
                  clear stop nxt h5
                  go_wp2_with (first
                    | (go_at_call 68; (with_reducible refine (HL1.out _).mono ?_); rintro e w2 ⟨rfl, rfl⟩)
                    | (go_at_call 68; (with_reducible refine (HL2.out _).mono ?_); rintro e w2 ⟨rfl, rfl⟩))
                  go_quiet (fail)
                  go_wp2_with (go_at_call 39; refine (HN.out _).mono ?_; rintro e w2 ⟨rfl, rfl⟩)
                  go_ret
                  exact ⟨ret_int (er.out.symm.trans HX.out), (bW.trans BWr.out).drewN _⟩
                | true =>
                have HN := Lib.hid (fun w => isNmR_is r.name true h5 w hrsz)
                have h6 : ((x.rs.take (j0 + 1)).map nmR).contains (nmR r) = true → Hid (X = 6) := fun h => stop 6 (by decide) (by unfold ckRng; rw [if_neg f1.out, if_neg f2.out, if_neg (by rw [h5]; decide), if_pos h])
                have h7 : ¬ ((x.rs.take (j0 + 1)).map nmR).contains (nmR r) = true → Hid (X = ckRngs (aheadR x.rs ((j0 + 1) + 1)) ((x.rs.take ((j0 + 1) + 1)).map nmR) (x.rs.drop ((j0 + 1) + 1))) := fun h => nxt (by unfold ckRng; rw [if_neg f1.out, if_neg f2.out, if_neg (by rw [h5]; decide), if_neg h])
                have H6 := Lib.hid h6
                have H7 := Lib.hid h7
                clear stop nxt h5 h6 h7
                go_wp2_with (first
                  | (go_at_call 68; (with_reducible refine (HL1.out _).mono ?_); rintro e w2 ⟨rfl, rfl⟩)
                  | (go_at_call 68; (with_reducible refine (HL2.out _).mono ?_); rintro e w2 ⟨rfl, rfl⟩))
                go_quiet (fail)
                go_wp2_with (go_at_call 39; refine (HN.out _).mono ?_; rintro e w2 ⟨rfl, rfl⟩)
                clear HN HL1 HL2
                obtain ⟨W1, hW1⟩ : ∃ W1, W1 = wr.alloc (.cells #[.int .i64 r.lo, .int .i64 r.hi, .string r.name] 67) := ⟨_, rfl⟩
                rw [← hW1] at HCr BWr
                have bW1 : Bl wr W1 := by rw [hW1]; exact (Bl.refl wr).alloc _
                have HL1 := Lib.hid (HLL.out.bl bW1)
                go_loopw [137] (fun vj wi => ∃ j : Nat, j ≤ j0 + 1 ∧ vj = .int .i64 j ∧ Hid (∀ e ∈ x.rs.take j, nmR e ≠ nmR r) ∧ Hid (Bl W1 wi)) (fun vj _ => (j0 + 1) - (intOf vj).toNat)
                case atStart => exact ⟨0, Nat.zero_le _, rfl, (fun e he => by simp at he), (by show Bl W1 _; rw [hW1]; exact (Bl.refl _).drewN _)⟩
                case round =>
                  obtain ⟨j, hj, rfl, HJ, HBi⟩ := hrel
                  rename World => wi
                  by_cases hjk : j < j0 + 1
                  · have hjl : j < x.rs.length := by omega
                    obtain ⟨q0, q1, q2⟩ := HCr.out _ HBi.out
                    have zr : wr.heap.size < wi.heap.size := World.block_lt_of_cell? _ _ q0
                    obtain ⟨g0, g1, g2⟩ := (HL1.out.bl HBi.out) j hjl
                    have htj := Lib.hid (fun h2 => take_all (P := fun e => nmR e ≠ nmR r) hjl HJ.out h2)
                    have hmj : Hid (x.rs[j] ∈ x.rs.take (j0 + 1)) := by
                      show _ ∈ _
                      have h1 : j < (x.rs.take (j0 + 1)).length := by rw [List.length_take]; omega
                      have h2 : (x.rs.take (j0 + 1))[j] = x.rs[j] := by simp
                      rw [← h2]; exact List.getElem_mem h1
                    obtain ⟨y, hy⟩ : ∃ y, y = x.rs[j] := ⟨_, rfl⟩
                    rw [← hy] at g0 g1 g2 htj hmj
                    clear hy
                    have j2 : (j : Int) < ((j0 + 1 : Nat) : Int) := by omega
                    by_cases hq : nmR y = nmR r
                    · have er := H6.out (List.elem_eq_true_of_mem (List.mem_map.2 ⟨y, hmj.out, hq⟩))
                      have hs := str_same (a := y.name) (b := r.name) hq
                      clear htj hq hmj H6 H7
                      go_wp2
                      go_ret
                      exact ⟨ret_int (er.out.symm.trans HX.out), (bW.trans (BWr.out.trans HBi.out)).alloc _⟩
                    · have hn' := Lib.hid (htj.out hq)
                      have hs := str_other (a := y.name) (b := r.name) hq
                      clear htj hq hmj
                      go_wp2
                      go_roundw
                      case rel => exact ⟨j + 1, by omega, by go_num, hn'.out, HBi.out.alloc _⟩
                      case measure => simp [intOf]; omega
                  · obtain rfl : j = j0 + 1 := by omega
                    have hno : ¬ ((x.rs.take (j0 + 1)).map nmR).contains (nmR r) = true := fun hc => by
                      obtain ⟨e, he, hl⟩ := List.mem_map.1 (List.mem_of_elem_eq_true hc)
                      exact HJ.out e he hl
                    have hn := H7.out hno
                    have bfin := Lib.hid (BWr.out.trans HBi.out)
                    clear HJ H6 H7 hno
                    go_wp2
                    go_roundw
                    case rel => exact ⟨j0 + 1 + 1, by omega, by go_num, hn, bfin.out⟩
                    case measure => simp [intOf]; omega
            · obtain rfl : k = x.rs.length := by omega
              have er : Hid (X = 0) := by show _ = _; rw [HK.out, List.drop_length]; rfl
              clear HK
              go_wp2
              go_ret
              exact ⟨ret_int (er.out.symm.trans HX.out), bW.trans HB.out⟩
end Go.Proofs.YtcidldomnifdeaaDoor
