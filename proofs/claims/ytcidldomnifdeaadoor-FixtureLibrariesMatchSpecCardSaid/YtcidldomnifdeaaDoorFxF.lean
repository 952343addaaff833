/- CheckProfile of the program. -/
import Derived.Test.YtcidldomnifdeaaDoorFxP
namespace Go.Proofs.YtcidldomnifdeaaDoor
open Go.RowKit Go.Sort Go.Maps Go.WideMaps

theorem SetAt.grown {w w' : World} {k e : TypeId} {b n B : Nat} {l : List (List UInt8)} (h : SetAt w k e b n l) (g : w.grownBy w' (some B)) (hne : b ≠ B) : SetAt w' k e b n l := World.ownsMap.kept h g (by simpa using hne)
theorem SetIAt.grown {w w' : World} {k e : TypeId} {b n B : Nat} {l : List Int} (h : SetIAt w k e b n l) (g : w.grownBy w' (some B)) (hne : b ≠ B) : SetIAt w' k e b n l := World.ownsMap.kept h g (by simpa using hne)
theorem SetIAt.lt {w : World} {k e : TypeId} {b n : Nat} {l : List Int} (h : SetIAt w k e b n l) : b < w.heap.size := World.ownsMap.lt h
theorem set_of {w : World} {k e : TypeId} {b n : Nat} {l : List (List UInt8)} {x : List UInt8} (h : w.ownsMap Tryd.prog k (plainElem Tryd.prog e) b n ((nset l).put (.string x) (.lit (.bool true)))) : SetAt w k e b n (l ++ [x]) := by unfold SetAt; rw [nset_snoc]; exact h
theorem seti_of {w : World} {k e : TypeId} {b n : Nat} {l : List Int} {x : Int} (h : w.ownsMap Tryd.prog k (plainElem Tryd.prog e) b n ((iset l).put (.int .i64 x) (.lit (.bool true)))) : SetIAt w k e b n (l ++ [x]) := by unfold SetIAt; rw [iset_snoc]; exact h
theorem SetIAt.mono {w : World} {k e : TypeId} {b n n' : Nat} {l : List Int} (h : SetIAt w k e b n l) (hn : n ≤ n') : SetIAt w k e b n' l := World.ownsMap.mono h hn
theorem CelP.grown {w w' : World} {n B : Nat} {e : Par} {v : Value} (h : CelP w n 0 e v) (g : w.grownBy w' (some B)) (hne : n ≠ B) : CelP w' n 0 e v := by
  have hlt : n < w.heap.size := World.block_lt_of_cell? _ _ h.1
  have e0 : w'.heap[n]? = w.heap[n]? := g.block n hlt (fun e => hne (by cases e; rfl))
  have key : ∀ j v, w.cell? ⟨n, j, none⟩ = some v → w'.cell? ⟨n, j, none⟩ = some v := fun j v hv => by rw [World.cell?_of_block e0]; exact hv
  exact ⟨key _ _ h.1, key _ _ h.2.1, key _ _ h.2.2.1, key _ _ h.2.2.2.1, key _ _ h.2.2.2.2.1, key _ _ h.2.2.2.2.2.1, key _ _ h.2.2.2.2.2.2⟩

set_option maxRecDepth 100000 in
set_option maxHeartbeats 6400000 in
theorem checkProfile_any (x : Prof) (vp : Value) (w : World) (hp : ParVal w vp x.ps) (hok : ProfOk x) :
    Calls Tryd.prog 12 #[.agg #[.string x.name, .int .i64 x.size, vp]] w fun e w' => e = .returned (.int .i64 (ckProf x)) ∧ Bl w w' := by
  have hmm := @run_makeMap Tryd.prog
  obtain ⟨hsz, hpo⟩ := hok
  obtain ⟨W0, hW0⟩ : ∃ W0, W0 = w.alloc (.cells #[.string x.name, .int .i64 x.size, vp] 29) := ⟨_, rfl⟩
  have bW0 : Bl w W0 := by rw [hW0]; exact (Bl.refl w).alloc _
  have HC := Lib.hid (show ∀ w', Bl W0 w' → CelF w' w.heap.size 0 x vp from fun w' g => CelF.bl (by rw [hW0]; exact CelF.new _ _ _ _) g)
  have HPv := Lib.hid (hp.bl bW0)
  obtain ⟨o, cap, rfl, hcap, _⟩ := hp
  obtain ⟨d0, d1, d2⟩ := HC.out W0 (Bl.refl _)
  have hW := hW0.symm
  clear hW0
  cases h1 : isNm (nmF x) with
  | false =>
    have HN := Lib.hid (fun w => isNm_is x.name false h1 w hsz)
    have er : Hid (ckProf x = 5) := by show _ = _; unfold ckProf; rw [if_pos h1]
    clear h1
    go_enter Tryd.func12, Tryd.ntmps12
    go_wp2_with (go_at_call 37; (try rw [hW]); refine (HN.out _).mono ?_; rintro e w1 ⟨rfl, m1⟩; clear d0 d1 d2; obtain ⟨d0, d1, d2⟩ := HC.out _ m1)
    go_returns
    exact ⟨ret_int er.out.symm, bW0.trans m1⟩
  | true =>
    have HN := Lib.hid (fun w => isNm_is x.name true h1 w hsz)
    have e1 : ¬ isNm (nmF x) = false := by rw [h1]; decide
    clear h1
    by_cases h2 : x.size < 1
    · have er : Hid (ckProf x = 1) := by show _ = _; unfold ckProf; rw [if_neg e1, if_pos (.inl h2)]
      clear e1
      go_enter Tryd.func12, Tryd.ntmps12
      go_wp2_with (go_at_call 37; (try rw [hW]); refine (HN.out _).mono ?_; rintro e w1 ⟨rfl, m1⟩; clear d0 d1 d2; obtain ⟨d0, d1, d2⟩ := HC.out _ m1)
      go_returns
      exact ⟨ret_int er.out.symm, bW0.trans m1⟩
    have s1 : 1 ≤ x.size := by omega
    by_cases h2 : 512 < x.size
    · have er : Hid (ckProf x = 1) := by show _ = _; unfold ckProf; rw [if_neg e1, if_pos (.inr h2)]
      clear e1
      go_enter Tryd.func12, Tryd.ntmps12
      go_wp2_with (go_at_call 37; (try rw [hW]); refine (HN.out _).mono ?_; rintro e w1 ⟨rfl, m1⟩; clear d0 d1 d2; obtain ⟨d0, d1, d2⟩ := HC.out _ m1)
      go_returns
      exact ⟨ret_int er.out.symm, bW0.trans m1⟩
    have s2 : x.size ≤ 512 := by omega
    have e2 : ¬ (x.size < 1 ∨ 512 < x.size) := by omega
    by_cases h3 : x.ps.length = 0
    · have er : Hid (ckProf x = 8) := by show _ = _; unfold ckProf; rw [if_neg e1, if_neg e2, if_pos h3]
      have t1 : ((x.ps.length : Int) == 0) = true := by rw [beq_iff_eq]; omega
      clear e1 e2 h3
      go_enter Tryd.func12, Tryd.ntmps12
      go_wp2_with (go_at_call 37; (try rw [hW]); refine (HN.out _).mono ?_; rintro e w1 ⟨rfl, m1⟩; clear d0 d1 d2; obtain ⟨d0, d1, d2⟩ := HC.out _ m1)
      go_returns
      exact ⟨ret_int er.out.symm, bW0.trans m1⟩
    have t1 : ((x.ps.length : Int) == 0) = false := by rw [beq_eq_false_iff_ne]; omega
    by_cases h4 : 40 < x.ps.length
    · have er : Hid (ckProf x = 2) := by show _ = _; unfold ckProf; rw [if_neg e1, if_neg e2, if_neg h3, if_pos h4]
      have t2 : (40 : Int) < (x.ps.length : Int) := by omega
      clear e1 e2 h3 h4
      go_enter Tryd.func12, Tryd.ntmps12
      go_wp2_with (go_at_call 37; (try rw [hW]); refine (HN.out _).mono ?_; rintro e w1 ⟨rfl, m1⟩; clear d0 d1 d2; obtain ⟨d0, d1, d2⟩ := HC.out _ m1)
      go_returns
      exact ⟨ret_int er.out.symm, bW0.trans m1⟩
    have t2 : (x.ps.length : Int) ≤ 40 := by omega
    have er0 : Hid (ckProf x = ckPars x.size [] [] x.ps) := by show _ = _; unfold ckProf; rw [if_neg e1, if_neg e2, if_neg h3, if_neg h4]
    have hl40 : x.ps.length ≤ 40 := by omega
    clear e1 e2 h3 h4
    obtain ⟨size, hsize⟩ : ∃ s, s = x.size := ⟨_, rfl⟩
    go_enter Tryd.func12, Tryd.ntmps12
    go_wp2_with (go_at_call 37; (try rw [hW]); refine (HN.out _).mono ?_; rintro e w1 ⟨rfl, m1⟩; clear d0 d1 d2; obtain ⟨d0, d1, d2⟩ := HC.out _ m1; have z1 : w.heap.size < w1.heap.size := World.block_lt_of_cell? _ _ d0; have z2 : w.heap.size < w1.heap.size + 1 := Nat.lt_succ_of_lt z1)
    have M1 := Lib.hid m1
    clear m1 d0 d1 d2
    go_loopw [37] (fun vi wr => ∃ k : Nat, k ≤ x.ps.length ∧ vi = .int .i64 k ∧ Hid (SetAt wr 9 4 w1.heap.size k ((x.ps.take k).map nmP)) ∧ Hid (SetIAt wr 3 4 (w1.heap.size + 1) (2 * k) ((x.ps.take k).flatMap slotsOf)) ∧ Hid (ckProf x = ckPars x.size ((x.ps.take k).map nmP) ((x.ps.take k).flatMap slotsOf) (x.ps.drop k)) ∧ Hid (Bl w1 wr)) (fun vi _ => x.ps.length - (intOf vi).toNat)
    case atStart => exact ⟨0, Nat.zero_le _, rfl, (SetAt.made w1 _ _).bl ((Bl.refl _).alloc _), (by have := SetIAt.made (w1.alloc (.map #[] 0)) 3 4; rwa [World.size_alloc] at this), er0, ((Bl.refl w1).alloc _).alloc _⟩
    case round =>
      obtain ⟨k, hk, rfl, HS, HI, HK, HB⟩ := hrel
      rename World => wr
      have hBs := HI.out.lt
      have bwr : Bl W0 wr := M1.out.trans HB.out
      obtain ⟨d0, d1, d2⟩ := HC.out _ bwr
      have z3 : w.heap.size < wr.heap.size := World.block_lt_of_cell? _ _ d0
      by_cases hlt : k < x.ps.length
      · obtain ⟨o', cap', ev, _, hp'⟩ := HPv.out.bl bwr
        obtain ⟨rfl, -, rfl⟩ : o = o' ∧ True ∧ cap = cap' := by cases ev; exact ⟨rfl, trivial, rfl⟩
        clear ev
        obtain ⟨b, off, rfl, hL⟩ := hp' (by omega)
        clear hp'
        have hstep := Lib.hid (ckPars_at x.ps k hlt x.size ((x.ps.take k).map nmP) ((x.ps.take k).flatMap slotsOf))
        have htk : Hid ((x.ps.take (k + 1)).map nmP = (x.ps.take k).map nmP ++ [nmP x.ps[k]]) := by
          show _ = _; rw [List.take_succ_eq_append_getElem hlt, List.map_append]; rfl
        have hti : Hid ((x.ps.take (k + 1)).flatMap slotsOf = (x.ps.take k).flatMap slotsOf ++ slotsOf x.ps[k]) := by
          show _ = _; rw [List.take_succ_eq_append_getElem hlt, List.flatMap_append]; simp
        obtain ⟨vr, hcel, hrv⟩ := hL k hlt
        have hpk := hpo x.ps[k] (List.getElem_mem hlt)
        obtain ⟨y, hy⟩ : ∃ y, y = x.ps[k] := ⟨_, rfl⟩
        rw [← hy] at hstep htk hti hcel hrv hpk
        clear hy hL
        have hslot : ckPar x.size ((x.ps.take k).map nmP) ((x.ps.take k).flatMap slotsOf) y = 0 → (1 ≤ y.slot ∧ y.slot ≤ 512) ∧ (0 ≤ y.fine ∧ y.fine ≤ 512) := fun h => by
          obtain ⟨⟨_, _, h3, h4, _⟩, _⟩ := ckPar_good h
          omega
        generalize (x.ps.take k).map nmP = ns at *
        generalize (x.ps.take k).flatMap slotsOf = ss at *
        obtain ⟨orr, cr, evr⟩ : ∃ o c, vr = .slice o y.rs.length c := by obtain ⟨o, c, e, _⟩ := hrv; exact ⟨o, c, e⟩
        subst evr
        obtain ⟨c0, c1, c2, c3, c4, c5, c6⟩ := hcel
        have k1 : (k : Int) < (x.ps.length : Int) := by omega
        obtain ⟨W, hWr⟩ : ∃ W, W = wr.alloc (.cells #[.string y.name, .int .i64 y.grp, .int .i64 y.slot, .int .i64 y.fine, .int .i64 y.dflt, .bool y.snap, .slice orr y.rs.length cr] 46) := ⟨_, rfl⟩
        have bWr : Bl wr W := by rw [hWr]; exact (Bl.refl wr).alloc _
        have HCP := Lib.hid (CelP.bl (w := W) (w' := W) (by rw [hWr]; exact CelP.new _ _ _ _ : CelP W wr.heap.size 0 y (.slice orr y.rs.length cr)) (Bl.refl _))
        have HSW := Lib.hid (HS.out.bl bWr)
        have HIW := Lib.hid (HI.out.bl bWr)
        have HCk := Lib.hid (checkParam_any y (.slice orr y.rs.length cr) x.size w1.heap.size (w1.heap.size + 1) k (2 * k) ns ss W (hrv.bl bWr) hpk HSW.out HIW.out s2)
        have hn1 : wr.heap.size ≠ w1.heap.size := by omega
        have hn2 : wr.heap.size ≠ w1.heap.size + 1 := by omega
        have hn3 : w1.heap.size + 1 ≠ w1.heap.size := by omega
        have hn4 : w1.heap.size ≠ w1.heap.size + 1 := by omega
        have hysz := hpk.1
        have bw1W : Bl w1 W := HB.out.trans bWr
        clear HS HI hpk hrv
        by_cases hz : ckPar x.size ns ss y = 0
        · obtain ⟨hsl, hfn⟩ := hslot hz
          have wf1 := Lib.hid (show (Lit.int .i64 y.slot).wf = true from WalkArith.wf_i64 (by omega))
          have wf2 := Lib.hid (show (Lit.int .i64 y.fine).wf = true from WalkArith.wf_i64 (by omega))
          have hn : Hid (ckProf x = ckPars x.size ((x.ps.take (k + 1)).map nmP) ((x.ps.take (k + 1)).flatMap slotsOf) (x.ps.drop (k + 1))) := by show _ = _; rw [HK.out, hstep.out, if_pos hz, htk.out, hti.out]
          rw [hz] at HCk
          clear hstep HK hslot hz hsl
          have tokA : True := trivial
          by_cases hf : y.fine = 0
          · have hsl : Hid (slotsOf y = [y.slot]) := by show _ = _; unfold slotsOf; rw [if_pos hf]
            have hf' : (y.fine != 0) = false := by simpa using hf
            clear hf
            go_wp2_with (first
              | (go_at_call 38; (try rw [← hWr]); refine HCk.out.mono ?_; rintro e w2 ⟨rfl, m2⟩; have HS2 := Lib.hid (HSW.out.bl m2); have HI2 := Lib.hid (HIW.out.bl m2); have HC2 := Lib.hid (HCP.out.bl m2); obtain ⟨u0, u1, u2, u3, u4, u5, u6⟩ := HC2.out)
              | (at_mapUpdate; have _t := tokA; refine wpList_mapUpdate_own _ rfl _ _ _ 71 rfl 9 4 (string_keyed Tryd.underlying9) Tryd.underlying71 (plainElem (H := Unit) Tryd.prog 4) w1.heap.size k _ rfl HS2.out (by unfold maxLen; omega) _ _ _ rfl rfl (keyOf_string_mk Tryd.underlying9 hysz) _ [] (plainElem_bool Tryd.underlying4 true) ?_; intro w3 hown3 hg3; clear tokA; have HS3 := Lib.hid (set_of hown3); have HI3 := Lib.hid (HI2.out.grown hg3 hn3); have HC3 := Lib.hid (HC2.out.grown hg3 hn1); clear hown3 u0 u1 u2 u3 u4 u5 u6; obtain ⟨u0, u1, u2, u3, u4, u5, u6⟩ := HC3.out; have tokB : True := trivial)
              | (at_mapUpdate; have _t := tokB; refine wpList_mapUpdate_own _ rfl _ _ _ 77 rfl 3 4 (int_keyed Tryd.underlying3) Tryd.underlying77 (plainElem (H := Unit) Tryd.prog 4) (w1.heap.size + 1) (2 * k) _ rfl HI3.out (by unfold maxLen; omega) _ _ _ rfl rfl (keyOf_int_mk Tryd.underlying3 wf1.out) _ [] (plainElem_bool Tryd.underlying4 true) ?_; intro w4 hown4 hg4; clear tokB; have HI4 := Lib.hid (seti_of hown4); have HS4 := Lib.hid (SetAt.grown (w := w3) HS3.out hg4 hn4); have HC4 := Lib.hid (HC3.out.grown hg4 hn2); clear hown4 u0 u1 u2 u3 u4 u5 u6; obtain ⟨u0, u1, u2, u3, u4, u5, u6⟩ := HC4.out; have tokC : True := trivial))
            go_roundw
            case rel => exact ⟨k + 1, by omega, by go_num, by rw [htk.out]; exact HS4.out, by rw [hti.out, hsl.out]; exact SetIAt.mono (w := w4) HI4.out (by omega), hn, ((bw1W.trans m2).grown hg3 (fun j hj => by cases hj; exact Nat.le_refl _)).grown hg4 (fun j hj => by cases hj; exact Nat.le_succ _)⟩
            case measure => simp [intOf]; omega
          · have hsl : Hid (slotsOf y = [y.slot, y.fine]) := by show _ = _; unfold slotsOf; rw [if_neg hf]
            have hf' : (y.fine != 0) = true := by simpa using hf
            have ha : Hid (ss ++ slotsOf y = ss ++ [y.slot] ++ [y.fine]) := by show _ = _; rw [hsl.out]; simp
            clear hf
            go_wp2_with (first
              | (go_at_call 38; (try rw [← hWr]); refine HCk.out.mono ?_; rintro e w2 ⟨rfl, m2⟩; have HS2 := Lib.hid (HSW.out.bl m2); have HI2 := Lib.hid (HIW.out.bl m2); have HC2 := Lib.hid (HCP.out.bl m2); obtain ⟨u0, u1, u2, u3, u4, u5, u6⟩ := HC2.out)
              | (at_mapUpdate; have _t := tokA; refine wpList_mapUpdate_own _ rfl _ _ _ 71 rfl 9 4 (string_keyed Tryd.underlying9) Tryd.underlying71 (plainElem (H := Unit) Tryd.prog 4) w1.heap.size k _ rfl HS2.out (by unfold maxLen; omega) _ _ _ rfl rfl (keyOf_string_mk Tryd.underlying9 hysz) _ [] (plainElem_bool Tryd.underlying4 true) ?_; intro w3 hown3 hg3; clear tokA; have HS3 := Lib.hid (set_of hown3); have HI3 := Lib.hid (HI2.out.grown hg3 hn3); have HC3 := Lib.hid (HC2.out.grown hg3 hn1); clear hown3 u0 u1 u2 u3 u4 u5 u6; obtain ⟨u0, u1, u2, u3, u4, u5, u6⟩ := HC3.out; have tokB : True := trivial)
              | (at_mapUpdate; have _t := tokB; refine wpList_mapUpdate_own _ rfl _ _ _ 77 rfl 3 4 (int_keyed Tryd.underlying3) Tryd.underlying77 (plainElem (H := Unit) Tryd.prog 4) (w1.heap.size + 1) (2 * k) _ rfl HI3.out (by unfold maxLen; omega) _ _ _ rfl rfl (keyOf_int_mk Tryd.underlying3 wf1.out) _ [] (plainElem_bool Tryd.underlying4 true) ?_; intro w4 hown4 hg4; clear tokB; have HI4 := Lib.hid (seti_of hown4); have HS4 := Lib.hid (SetAt.grown (w := w3) HS3.out hg4 hn4); have HC4 := Lib.hid (HC3.out.grown hg4 hn2); clear hown4 u0 u1 u2 u3 u4 u5 u6; obtain ⟨u0, u1, u2, u3, u4, u5, u6⟩ := HC4.out; have tokC : True := trivial)
              | (at_mapUpdate; have _t := tokC; refine wpList_mapUpdate_own _ rfl _ _ _ 77 rfl 3 4 (int_keyed Tryd.underlying3) Tryd.underlying77 (plainElem (H := Unit) Tryd.prog 4) (w1.heap.size + 1) (2 * k + 1) _ rfl HI4.out (by unfold maxLen; omega) _ _ _ rfl rfl (keyOf_int_mk Tryd.underlying3 wf2.out) _ [] (plainElem_bool Tryd.underlying4 true) ?_; intro w5 hown5 hg5; clear tokC; have HI5 := Lib.hid (seti_of hown5); have HS5 := Lib.hid (SetAt.grown (w := w4) HS4.out hg5 hn4); clear hown5))
            go_roundw
            case rel => exact ⟨k + 1, by omega, by go_num, by rw [htk.out]; exact HS5.out, by rw [hti.out, ha.out]; exact SetIAt.mono (w := w5) HI5.out (by omega), hn, (((bw1W.trans m2).grown hg3 (fun j hj => by cases hj; exact Nat.le_refl _)).grown hg4 (fun j hj => by cases hj; exact Nat.le_succ _)).grown hg5 (fun j hj => by cases hj; exact Nat.le_succ _)⟩
            case measure => simp [intOf]; omega
        · have er : Hid (ckProf x = ckPar x.size ns ss y) := by show _ = _; rw [HK.out, hstep.out, if_neg hz]
          have hzb : (ckPar x.size ns ss y != 0) = true := by simpa using hz
          clear hstep HK hslot hz hn1 hn2 hn3 hn4
          generalize ckPar x.size ns ss y = X at *
          go_wp2_with (first
            | (go_at_call 38; (try rw [← hWr]); refine HCk.out.mono ?_; rintro e w2 ⟨rfl, m2⟩))
          go_ret
          exact ⟨ret_int er.out.symm, bW0.trans (M1.out.trans (bw1W.trans m2))⟩
      · obtain rfl : k = x.ps.length := by omega
        have er : Hid (ckProf x = 0) := by show _ = _; rw [HK.out, List.drop_length]; rfl
        clear HK
        go_wp2
        go_ret
        exact ⟨ret_int er.out.symm, bW0.trans bwr⟩
end Go.Proofs.YtcidldomnifdeaaDoor
