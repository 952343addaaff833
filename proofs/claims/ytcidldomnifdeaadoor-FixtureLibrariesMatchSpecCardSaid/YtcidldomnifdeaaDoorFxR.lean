/- checkRanges of the program. -/
import Derived.Test.YtcidldomnifdeaaDoorFxM
import Derived.Test.YtcidldomnifdeaaDoorSetB
import Derived.Test.YtcidldomnifdeaaDoorName
namespace Go.Proofs.YtcidldomnifdeaaDoor
open Go.RowKit Go.Sort Go.Maps Go.WideMaps

theorem isLev_is (n : Int) (v : Bool) (h : isLev n = v) (w : World) :
    Calls Tryd.prog 65 #[.int .i64 n] w fun e w' => e = .returned (.bool v) ∧ w = w' := by subst h; exact isLevel_any n w
theorem isNm_is (s : ByteArray) (v : Bool) (h : isNm s.data.toList = v) (w : World) (hs : s.size ≤ 9223372036854775807) :
    Calls Tryd.prog 37 #[.string s] w fun e w' => e = .returned (.bool v) ∧ Bl w w' := by subst h; exact isName_any s w hs
theorem CelR.grown {w w' : World} {n B : Nat} {e : Rng} (h : CelR w n 0 e) (g : w.grownBy w' (some B)) (hne : n ≠ B) : CelR w' n 0 e := by
  have hlt : n < w.heap.size := World.block_lt_of_cell? _ _ h.1
  have e0 : w'.heap[n]? = w.heap[n]? := g.block n hlt (fun e => hne (by cases e; rfl))
  refine ⟨?_, ?_, ?_⟩
  · rw [World.cell?_of_block e0]; exact h.1
  · rw [World.cell?_of_block e0]; exact h.2.1
  · rw [World.cell?_of_block e0]; exact h.2.2
theorem SetAt.lt {w : World} {k e : TypeId} {b n : Nat} {l : List (List UInt8)} (h : SetAt w k e b n l) : b < w.heap.size := World.ownsMap.lt h

set_option maxRecDepth 100000 in
set_option maxHeartbeats 3200000 in
theorem checkRanges_any (v : Value) (L : List Rng) (w : World) (hv : RngVal w v L) (hok : RngsOk L) (hl : L.length ≤ 30) :
    Calls Tryd.prog 66 #[v] w fun e w' => e = .returned (.int .i64 (ckRngs (-1) [] L)) ∧ Bl w w' := by
  have hmm := @run_makeMap Tryd.prog
  obtain ⟨o, cap, rfl, _, hp⟩ := hv
  have HP := Lib.hid hp
  have HO := Lib.hid hok
  clear hp hok
  go_enter Tryd.func66, Tryd.ntmps66
  go_wp2
  go_loopw [4, 10] (fun va vi wr => ∃ (k : Nat) (a : Int), k ≤ L.length ∧ vi = .int .i64 k ∧ va = .int .i64 a ∧ Hid (SetAt wr 9 4 w.heap.size k ((L.take k).map nmR)) ∧ Hid (ckRngs (-1) [] L = ckRngs a ((L.take k).map nmR) (L.drop k)) ∧ Hid (Bl w wr)) (fun _ vi _ => L.length - (intOf vi).toNat)
  case atStart => exact ⟨0, -1, Nat.zero_le _, rfl, rfl, SetAt.made _ _ _, rfl, (Bl.refl w).alloc _⟩
  case round =>
    obtain ⟨k, a, hk, rfl, rfl, HS, HK, HB⟩ := hrel
    rename World => wr
    have hBs := HS.out.lt
    by_cases hlt : k < L.length
    · obtain ⟨b, off, rfl, hL⟩ := HP.out (by omega)
      have hstep := Lib.hid (ckRngs_at L k hlt a ((L.take k).map nmR))
      have htk : Hid ((L.take (k + 1)).map nmR = (L.take k).map nmR ++ [nmR L[k]]) := by
        show _ = _; rw [List.take_succ_eq_append_getElem hlt, List.map_append]; rfl
      obtain ⟨c0, c1, c2⟩ := (hL.bl HB.out) k hlt
      have hsz := HO.out L[k] (List.getElem_mem hlt)
      obtain ⟨x, hx⟩ : ∃ x, x = L[k] := ⟨_, rfl⟩
      rw [← hx] at hstep htk c0 c1 c2 hsz
      clear hx hL
      have k1 : (k : Int) < (L.length : Int) := by omega
      have hk30 : k ≤ 30 := by omega
      have stop : ∀ X : Int, X ≠ 0 → ckRng a ((L.take k).map nmR) x = X → Hid (ckRngs (-1) [] L = X) := fun X h0 h => by
        show _ = _; rw [HK.out, hstep.out, h, if_neg h0]
      obtain ⟨W, hW⟩ : ∃ W, W = wr.alloc (.cells #[.int .i64 x.lo, .int .i64 x.hi, .string x.name] 67) := ⟨_, rfl⟩
      have bW : Bl w W := by rw [hW]; exact HB.out.alloc _
      have hSW := Lib.hid (show SetAt W 9 4 w.heap.size k ((L.take k).map nmR) by rw [hW]; exact HS.out.bl ((Bl.refl wr).alloc _))
      have HC := Lib.hid (show CelR W wr.heap.size 0 x by rw [hW]; exact CelR.new _ _ _)
      have hne : wr.heap.size ≠ w.heap.size := by omega
      clear HS
      cases h1 : isLev x.lo with
      | false =>
        have HL1 := Lib.hid (fun w => isLev_is x.lo false h1 w)
        have er := stop 1 (by decide) (by unfold ckRng; rw [if_pos (.inl h1)])
        clear stop hstep HK hW h1
        go_wp2_with (first
          | (go_at_call 65; (with_reducible refine (HL1.out _).mono ?_); rintro e w1 ⟨rfl, rfl⟩))
        go_ret
        exact ⟨ret_int er.out.symm, HB.out.alloc _⟩
      | true =>
        have HL1 := Lib.hid (fun w => isLev_is x.lo true h1 w)
        cases h2 : isLev x.hi with
        | false =>
          have HL2 := Lib.hid (fun w => isLev_is x.hi false h2 w)
          have er := stop 1 (by decide) (by unfold ckRng; rw [if_pos (.inr (.inl h2))])
          clear stop hstep HK hW h1 h2
          go_wp2_with (first
            | (go_at_call 65; (with_reducible refine (HL1.out _).mono ?_); rintro e w1 ⟨rfl, rfl⟩)
            | (go_at_call 65; (with_reducible refine (HL2.out _).mono ?_); rintro e w1 ⟨rfl, rfl⟩))
          go_ret
          exact ⟨ret_int er.out.symm, HB.out.alloc _⟩
        | true =>
          have HL2 := Lib.hid (fun w => isLev_is x.hi true h2 w)
          by_cases h3 : x.hi < x.lo
          · have er := stop 1 (by decide) (by unfold ckRng; rw [if_pos (.inr (.inr h3))])
            clear stop hstep HK hW h1 h2
            go_wp2_with (first
              | (go_at_call 65; (with_reducible refine (HL1.out _).mono ?_); rintro e w1 ⟨rfl, rfl⟩)
              | (go_at_call 65; (with_reducible refine (HL2.out _).mono ?_); rintro e w1 ⟨rfl, rfl⟩))
            go_ret
            exact ⟨ret_int er.out.symm, HB.out.alloc _⟩
          have hc1 : ¬ (isLev x.lo = false ∨ isLev x.hi = false ∨ x.hi < x.lo) := by rw [h1, h2]; simpa using h3
          have h3' : x.lo ≤ x.hi := by omega
          clear h1 h2 h3
          by_cases h4 : x.lo ≤ a
          · have er := stop 7 (by decide) (by unfold ckRng; rw [if_neg hc1, if_pos h4])
            clear stop hstep HK hW hc1
            go_wp2_with (first
              | (go_at_call 65; (with_reducible refine (HL1.out _).mono ?_); rintro e w1 ⟨rfl, rfl⟩)
              | (go_at_call 65; (with_reducible refine (HL2.out _).mono ?_); rintro e w1 ⟨rfl, rfl⟩))
            go_ret
            exact ⟨ret_int er.out.symm, HB.out.alloc _⟩
          have h4' : a < x.lo := by omega
          cases h5 : isNm (nmR x) with
          | false =>
            have HN := Lib.hid (fun w => isNm_is x.name false h5 w hsz)
            have er := stop 5 (by decide) (by unfold ckRng; rw [if_neg hc1, if_neg h4, if_pos h5])
            clear stop hstep HK hc1 h4 h5
            go_wp2_with (first
              | (go_at_call 65; (with_reducible refine (HL1.out _).mono ?_); rintro e w1 ⟨rfl, rfl⟩)
              | (go_at_call 65; (with_reducible refine (HL2.out _).mono ?_); rintro e w1 ⟨rfl, rfl⟩)
              | (go_at_call 37; (try rw [← hW]); refine (HN.out _).mono ?_; rintro e w1 ⟨rfl, m1⟩))
            go_ret
            exact ⟨ret_int er.out.symm, bW.trans m1⟩
          | true =>
            have HN := Lib.hid (fun w => isNm_is x.name true h5 w hsz)
            cases h6 : ((L.take k).map nmR).contains (nmR x) with
            | true =>
              have HC6 : Hid (((L.take k).map nmR).contains x.name.data.toList = true) := h6
              have er := stop 6 (by decide) (by unfold ckRng; rw [if_neg hc1, if_neg h4, if_neg (by rw [h5]; decide), if_pos h6])
              clear stop hstep HK hc1 h4 h5 h6
              go_wp2_with (first
                | (go_at_call 65; (with_reducible refine (HL1.out _).mono ?_); rintro e w1 ⟨rfl, rfl⟩)
                | (go_at_call 65; (with_reducible refine (HL2.out _).mono ?_); rintro e w1 ⟨rfl, rfl⟩)
                | (go_at_call 37; (try rw [← hW]); refine (HN.out _).mono ?_; rintro e w1 ⟨rfl, m1⟩; have hs1 := Lib.hid (hSW.out.bl m1); obtain ⟨d0, d1, d2⟩ := HC.out.bl m1)
                | (at_lookup; refine wpList_lookup_set _ rfl _ _ 71 rfl 9 4 Tryd.underlying9 Tryd.underlying71 Tryd.underlying4 (by kernel_rfl) w.heap.size k _ rfl hs1.out x.name hsz rfl ?_; rw [HC6.out]))
              go_ret
              exact ⟨ret_int er.out.symm, bW.trans m1⟩
            | false =>
              have HC6 : Hid (((L.take k).map nmR).contains x.name.data.toList = false) := h6
              have hok : ckRng a ((L.take k).map nmR) x = 0 := by unfold ckRng; rw [if_neg hc1, if_neg h4, if_neg (by rw [h5]; decide), if_neg (by rw [h6]; decide)]
              have hn : Hid (ckRngs (-1) [] L = ckRngs x.hi ((L.take (k + 1)).map nmR) (L.drop (k + 1))) := by show _ = _; rw [HK.out, hstep.out, if_pos hok, htk.out]
              clear stop hstep HK hc1 h4 h5 h6 hok
              go_wp2_with (first
                | (go_at_call 65; (with_reducible refine (HL1.out _).mono ?_); rintro e w1 ⟨rfl, rfl⟩)
                | (go_at_call 65; (with_reducible refine (HL2.out _).mono ?_); rintro e w1 ⟨rfl, rfl⟩)
                | (go_at_call 37; (try rw [← hW]); refine (HN.out _).mono ?_; rintro e w1 ⟨rfl, m1⟩; have hs1 := Lib.hid (hSW.out.bl m1); have hd := Lib.hid (HC.out.bl m1); obtain ⟨d0, d1, d2⟩ := hd.out)
                | (at_lookup; refine wpList_lookup_set _ rfl _ _ 71 rfl 9 4 Tryd.underlying9 Tryd.underlying71 Tryd.underlying4 (by kernel_rfl) w.heap.size k _ rfl hs1.out x.name hsz rfl ?_; rw [HC6.out])
                | (at_mapUpdate; refine wpList_mapUpdate_own _ rfl _ _ _ 71 rfl 9 4 (string_keyed Tryd.underlying9) Tryd.underlying71 (plainElem (H := Unit) Tryd.prog 4) w.heap.size k _ rfl hs1.out (by unfold maxLen; omega) _ _ _ rfl rfl (keyOf_string_mk Tryd.underlying9 hsz) _ [] (plainElem_bool Tryd.underlying4 true) ?_; intro w2 hown2 hgrow2; have e5 := hd.out.grown hgrow2 hne; have hs2 := Lib.hid (nset_snoc _ _ ▸ hown2); clear hown2 d0 d1 d2; obtain ⟨d0, d1, d2⟩ := e5))
              go_roundw
              case rel => exact ⟨k + 1, x.hi, by omega, by go_num, rfl, by rw [htk.out]; exact hs2, hn, (bW.trans m1).grown hgrow2 (fun j hj => by cases hj; exact Nat.le_refl _)⟩
              case measure => simp [intOf]; omega
    · obtain rfl : k = L.length := by omega
      have er : Hid (ckRngs (-1) [] L = 0) := by show _ = _; rw [HK.out, List.drop_length]; rfl
      clear HK HP
      go_wp2
      go_ret
      exact ⟨ret_int er.out.symm, HB.out⟩
end Go.Proofs.YtcidldomnifdeaaDoor
