/- CheckLibrary of the program. -/
import Derived.Test.YtcidldomnifdeaaDoorFxF
namespace Go.Proofs.YtcidldomnifdeaaDoor
open Go.RowKit Go.Sort Go.Maps Go.WideMaps

theorem CelF.grown {w w' : World} {n B : Nat} {e : Prof} {v : Value} (h : CelF w n 0 e v) (g : w.grownBy w' (some B)) (hne : n ≠ B) : CelF w' n 0 e v := by
  have hlt : n < w.heap.size := World.block_lt_of_cell? _ _ h.1
  have e0 : w'.heap[n]? = w.heap[n]? := g.block n hlt (fun e => hne (by cases e; rfl))
  have key : ∀ j v, w.cell? ⟨n, j, none⟩ = some v → w'.cell? ⟨n, j, none⟩ = some v := fun j v hv => by rw [World.cell?_of_block e0]; exact hv
  exact ⟨key _ _ h.1, key _ _ h.2.1, key _ _ h.2.2⟩

set_option maxRecDepth 100000 in
set_option maxHeartbeats 6400000 in
theorem checkLibrary_any (v : Value) (L : List Prof) (w : World) (hv : ProfVal w v L) (hok : ∀ f ∈ L, ProfOk f) :
    Calls Tryd.prog 8 #[v] w fun e w' => e = .returned (.int .i64 (ckLib L)) ∧ Bl w w' := by
  have hmm := @run_makeMap Tryd.prog
  obtain ⟨o, cap, rfl, _, hp⟩ := hv
  by_cases h60 : 60 < L.length
  · have e : Hid (ckLib L = 2) := by show _ = _; unfold ckLib; rw [if_pos h60]
    have t1 : (60 : Int) < (L.length : Int) := by omega
    clear hp h60
    go_enter Tryd.func8, Tryd.ntmps8
    go_wp2
    go_returns
    exact ⟨ret_int e.out.symm, Bl.refl w⟩
  · have e : Hid (ckLib L = ckProfs [] L) := by show _ = _; unfold ckLib; rw [if_neg h60]
    have t1 : (L.length : Int) ≤ 60 := by omega
    have HP := Lib.hid hp
    have HO := Lib.hid hok
    clear hp h60 hok
    go_enter Tryd.func8, Tryd.ntmps8
    go_wp2
    go_loopw [13] (fun vi wr => ∃ k : Nat, k ≤ L.length ∧ vi = .int .i64 k ∧ Hid (SetAt wr 9 4 w.heap.size k ((L.take k).map nmF)) ∧ Hid (ckLib L = ckProfs ((L.take k).map nmF) (L.drop k)) ∧ Hid (Bl w wr)) (fun vi _ => L.length - (intOf vi).toNat)
    case atStart => exact ⟨0, Nat.zero_le _, rfl, SetAt.made _ _ _, e, (Bl.refl w).alloc _⟩
    case round =>
      obtain ⟨k, hk, rfl, HS, HK, HB⟩ := hrel
      rename World => wr
      have hBs := HS.out.lt
      by_cases hlt : k < L.length
      · obtain ⟨b, off, rfl, hL⟩ := HP.out (by omega)
        have hstep := Lib.hid (ckProfs_at L k hlt ((L.take k).map nmF))
        have htk : Hid ((L.take (k + 1)).map nmF = (L.take k).map nmF ++ [nmF L[k]]) := by
          show _ = _; rw [List.take_succ_eq_append_getElem hlt, List.map_append]; rfl
        obtain ⟨vp, hcel, hpv⟩ := (hL.bl HB.out) k hlt
        have hok := HO.out L[k] (List.getElem_mem hlt)
        obtain ⟨x, hx⟩ : ∃ x, x = L[k] := ⟨_, rfl⟩
        rw [← hx] at hstep htk hcel hpv hok
        clear hx hL
        obtain ⟨op, cp, evp⟩ : ∃ o c, vp = .slice o x.ps.length c := by obtain ⟨o, c, e, _⟩ := hpv; exact ⟨o, c, e⟩
        subst evp
        obtain ⟨c0, c1, c2⟩ := hcel
        generalize (L.take k).map nmF = ns at *
        have k1 : (k : Int) < (L.length : Int) := by omega
        have hk60 : k ≤ 60 := by omega
        obtain ⟨W, hW⟩ : ∃ W, W = wr.alloc (.cells #[.string x.name, .int .i64 x.size, .slice op x.ps.length cp] 29) := ⟨_, rfl⟩
        have bwr : Bl wr W := by rw [hW]; exact (Bl.refl wr).alloc _
        have bW := HB.out.trans bwr
        have HC := Lib.hid (show CelF W wr.heap.size 0 x (.slice op x.ps.length cp) by rw [hW]; exact CelF.new _ _ _ _)
        have HSW := Lib.hid (HS.out.bl bwr)
        have HCk := Lib.hid (checkProfile_any x (.slice op x.ps.length cp) W (hpv.bl bwr) hok)
        have hsz := hok.1
        have hn1 : wr.heap.size ≠ w.heap.size := by omega
        clear HS hok hpv
        by_cases hz : ckProf x = 0
        · rw [hz] at HCk
          cases h6 : ns.contains (nmF x) with
          | true =>
            have HC6 : Hid (ns.contains x.name.data.toList = true) := h6
            have er : Hid (ckLib L = 6) := by
              have : ckPr ns x = 6 := by unfold ckPr; rw [if_pos hz, if_pos h6]
              show _ = _; rw [HK.out, hstep.out, this]; rfl
            clear hstep HK hz h6
            go_wp2_with (first
              | (go_at_call 12; (try rw [← hW]); refine HCk.out.mono ?_; rintro e w2 ⟨rfl, m2⟩; have HS2 := Lib.hid (HSW.out.bl m2); have HC2 := Lib.hid (HC.out.bl m2); obtain ⟨u0, u1, u2⟩ := HC2.out)
              | (at_lookup; refine wpList_lookup_set _ rfl _ _ 71 rfl 9 4 Tryd.underlying9 Tryd.underlying71 Tryd.underlying4 (by kernel_rfl) w.heap.size k _ rfl HS2.out x.name hsz rfl ?_; rw [HC6.out]))
            go_ret
            exact ⟨ret_int er.out.symm, bW.trans m2⟩
          | false =>
            have HC6 : Hid (ns.contains x.name.data.toList = false) := h6
            have hn : Hid (ckLib L = ckProfs ((L.take (k + 1)).map nmF) (L.drop (k + 1))) := by
              have : ckPr ns x = 0 := by unfold ckPr; rw [if_pos hz, if_neg (by rw [h6]; decide)]
              show _ = _; rw [HK.out, hstep.out, if_pos this, htk.out]
            clear hstep HK hz h6
            go_wp2_with (first
              | (go_at_call 12; (try rw [← hW]); refine HCk.out.mono ?_; rintro e w2 ⟨rfl, m2⟩; have HS2 := Lib.hid (HSW.out.bl m2); have HC2 := Lib.hid (HC.out.bl m2); obtain ⟨u0, u1, u2⟩ := HC2.out)
              | (at_lookup; refine wpList_lookup_set _ rfl _ _ 71 rfl 9 4 Tryd.underlying9 Tryd.underlying71 Tryd.underlying4 (by kernel_rfl) w.heap.size k _ rfl HS2.out x.name hsz rfl ?_; rw [HC6.out])
              | (at_mapUpdate; refine wpList_mapUpdate_own _ rfl _ _ _ 71 rfl 9 4 (string_keyed Tryd.underlying9) Tryd.underlying71 (plainElem (H := Unit) Tryd.prog 4) w.heap.size k _ rfl HS2.out (by unfold maxLen; omega) _ _ _ rfl rfl (keyOf_string_mk Tryd.underlying9 hsz) _ [] (plainElem_bool Tryd.underlying4 true) ?_; intro w3 hown3 hg3; have HS3 := Lib.hid (set_of hown3); clear hown3))
            go_roundw
            case rel => exact ⟨k + 1, by omega, by go_num, by rw [htk.out]; exact HS3.out, hn, (bW.trans m2).grown hg3 (fun j hj => by cases hj; exact Nat.le_refl _)⟩
            case measure => simp [intOf]; omega
        · have er : Hid (ckLib L = ckProf x) := by
            have : ckPr ns x = ckProf x := by unfold ckPr; rw [if_neg hz]
            show _ = _; rw [HK.out, hstep.out, this, if_neg hz]
          have hzb : (ckProf x != 0) = true := by simpa using hz
          clear hstep HK hz
          generalize ckProf x = X at *
          go_wp2_with (first
            | (go_at_call 12; (try rw [← hW]); refine HCk.out.mono ?_; rintro e w2 ⟨rfl, m2⟩))
          go_ret
          exact ⟨ret_int er.out.symm, bW.trans m2⟩
      · obtain rfl : k = L.length := by omega
        have er : Hid (ckLib L = 0) := by show _ = _; rw [HK.out, List.drop_length]; rfl
        clear HK HP
        go_wp2
        go_ret
        exact ⟨ret_int er.out.symm, HB.out⟩
end Go.Proofs.YtcidldomnifdeaaDoor
