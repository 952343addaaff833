/- checkParam of the program. -/
import Derived.Test.YtcidldomnifdeaaDoorFxR
import Derived.Test.YtcidldomnifdeaaDoorSetI
namespace Go.Proofs.YtcidldomnifdeaaDoor
open Go.RowKit Go.Sort Go.Maps Go.WideMaps

set_option maxRecDepth 100000 in
set_option maxHeartbeats 6400000 in
theorem checkParam_any (x : Par) (vr : Value) (size : Int) (bn bi n m : Nat) (ns : List (List UInt8)) (ss : List Int) (w : World) (hr : RngVal w vr x.rs) (hok : ParOk x) (hsn : SetAt w 9 4 bn n ns) (hsi : SetIAt w 3 4 bi m ss) (h512 : size ≤ 512) :
    Calls Tryd.prog 38 #[.agg #[.string x.name, .int .i64 x.grp, .int .i64 x.slot, .int .i64 x.fine, .int .i64 x.dflt, .bool x.snap, vr], .int .i64 size, .map (some bn), .map (some bi)] w fun e w' => e = .returned (.int .i64 (ckPar size ns ss x)) ∧ Bl w w' := by
  obtain ⟨hsz, hro⟩ := hok
  obtain ⟨W, hW0⟩ : ∃ W, W = w.alloc (.cells #[.string x.name, .int .i64 x.grp, .int .i64 x.slot, .int .i64 x.fine, .int .i64 x.dflt, .bool x.snap, vr] 46) := ⟨_, rfl⟩
  have bW : Bl w W := by rw [hW0]; exact (Bl.refl w).alloc _
  have hSW := Lib.hid (hsn.bl bW)
  have hIW := Lib.hid (hsi.bl bW)
  have HC := Lib.hid (show CelP W w.heap.size 0 x vr by rw [hW0]; exact CelP.new _ _ _ _)
  have HRv := Lib.hid (hr.bl bW)
  obtain ⟨o, cap, rfl, _, _⟩ := hr
  have hW := hW0.symm
  clear hW0 hsn hsi
  obtain ⟨d0, d1, d2, d3, d4, d5, d6⟩ := HC.out
  have tokN : True := trivial
  have tokslot : True := trivial
  have tokfine : True := trivial
  cases h1 : isNm (nmP x) with
  | false =>
    have HN := Lib.hid (fun w => isNm_is x.name false h1 w hsz)
    have er : Hid (ckPar size ns ss x = 5) := by show _ = _; unfold ckPar; rw [if_pos h1]
    clear h1
    go_enter Tryd.func38, Tryd.ntmps38
    clear tokN
    go_wp2_with (first
      | (go_at_call 37; (try rw [hW]); refine (HN.out _).mono ?_; rintro e w1 ⟨rfl, m1⟩; have hs1 := Lib.hid (hSW.out.bl m1); have hi1 := Lib.hid (hIW.out.bl m1); clear d0 d1 d2 d3 d4 d5 d6; obtain ⟨d0, d1, d2, d3, d4, d5, d6⟩ := HC.out.bl m1))
    go_returns
    exact ⟨ret_int er.out.symm, bW.trans m1⟩
  | true =>
    have HN := Lib.hid (fun w => isNm_is x.name true h1 w hsz)
    have e1 : ¬ isNm (nmP x) = false := by rw [h1]; decide
    clear h1
    cases h2 : ns.contains (nmP x) with
    | true =>
      have HC6 : Hid (ns.contains x.name.data.toList = true) := h2
      have er : Hid (ckPar size ns ss x = 6) := by show _ = _; unfold ckPar; rw [if_neg e1, if_pos h2]
      clear h2 e1
      go_enter Tryd.func38, Tryd.ntmps38
      clear tokslot
      go_wp2_with (first
        | (go_at_call 37; (try rw [hW]); refine (HN.out _).mono ?_; rintro e w1 ⟨rfl, m1⟩; have hs1 := Lib.hid (hSW.out.bl m1); have hi1 := Lib.hid (hIW.out.bl m1); clear d0 d1 d2 d3 d4 d5 d6; obtain ⟨d0, d1, d2, d3, d4, d5, d6⟩ := HC.out.bl m1)
        | (at_lookup; have _t := tokN; refine wpList_lookup_set _ rfl _ _ 71 rfl 9 4 Tryd.underlying9 Tryd.underlying71 Tryd.underlying4 (by kernel_rfl) bn n _ rfl hs1.out x.name hsz rfl ?_; rw [HC6.out]; clear tokN))
      go_returns
      exact ⟨ret_int er.out.symm, bW.trans m1⟩
    | false =>
      have HC6 : Hid (ns.contains x.name.data.toList = false) := h2
      have e2 : ¬ ns.contains (nmP x) = true := by rw [h2]; decide
      clear h2
      have key3 : x.grp < 1 ∨ (1 ≤ x.grp ∧ 4 < x.grp) ∨ (1 ≤ x.grp ∧ x.grp ≤ 4) := by omega
      rcases key3 with g1 | ⟨g1, g2⟩ | ⟨g1, g2⟩
      · have er : Hid (ckPar size ns ss x = 4) := by show _ = _; unfold ckPar; rw [if_neg e1, if_neg e2, if_pos (.inl g1)]
        go_enter Tryd.func38, Tryd.ntmps38
        clear e1 e2
        go_wp2_with (first
          | (go_at_call 37; (try rw [hW]); refine (HN.out _).mono ?_; rintro e w1 ⟨rfl, m1⟩; have hs1 := Lib.hid (hSW.out.bl m1); have hi1 := Lib.hid (hIW.out.bl m1); clear d0 d1 d2 d3 d4 d5 d6; obtain ⟨d0, d1, d2, d3, d4, d5, d6⟩ := HC.out.bl m1)
          | (at_lookup; have _t := tokN; refine wpList_lookup_set _ rfl _ _ 71 rfl 9 4 Tryd.underlying9 Tryd.underlying71 Tryd.underlying4 (by kernel_rfl) bn n _ rfl hs1.out x.name hsz rfl ?_; rw [HC6.out]; clear tokN))
        go_returns
        exact ⟨ret_int er.out.symm, bW.trans m1⟩
      · have er : Hid (ckPar size ns ss x = 4) := by show _ = _; unfold ckPar; rw [if_neg e1, if_neg e2, if_pos (.inr g2)]
        go_enter Tryd.func38, Tryd.ntmps38
        clear e1 e2
        go_wp2_with (first
          | (go_at_call 37; (try rw [hW]); refine (HN.out _).mono ?_; rintro e w1 ⟨rfl, m1⟩; have hs1 := Lib.hid (hSW.out.bl m1); have hi1 := Lib.hid (hIW.out.bl m1); clear d0 d1 d2 d3 d4 d5 d6; obtain ⟨d0, d1, d2, d3, d4, d5, d6⟩ := HC.out.bl m1)
          | (at_lookup; have _t := tokN; refine wpList_lookup_set _ rfl _ _ 71 rfl 9 4 Tryd.underlying9 Tryd.underlying71 Tryd.underlying4 (by kernel_rfl) bn n _ rfl hs1.out x.name hsz rfl ?_; rw [HC6.out]; clear tokN))
        go_returns
        exact ⟨ret_int er.out.symm, bW.trans m1⟩
      have e3 : ¬ (x.grp < 1 ∨ 4 < x.grp) := by omega
      have key4 : x.slot < 1 ∨ (1 ≤ x.slot ∧ size < x.slot) ∨ (1 ≤ x.slot ∧ x.slot ≤ size ∧ x.fine < 0) ∨ (1 ≤ x.slot ∧ x.slot ≤ size ∧ 0 ≤ x.fine ∧ size < x.fine) ∨ (1 ≤ x.slot ∧ x.slot ≤ size ∧ 0 ≤ x.fine ∧ x.fine ≤ size) := by omega
      rcases key4 with s1 | ⟨s1, s2⟩ | ⟨s1, s2, s3⟩ | ⟨s1, s2, s3, s4⟩ | ⟨s1, s2, s3, s4⟩
      · have er : Hid (ckPar size ns ss x = 1) := by show _ = _; unfold ckPar; rw [if_neg e1, if_neg e2, if_neg e3, if_pos (.inl s1)]
        go_enter Tryd.func38, Tryd.ntmps38
        clear e1 e2 e3
        go_wp2_with (first
          | (go_at_call 37; (try rw [hW]); refine (HN.out _).mono ?_; rintro e w1 ⟨rfl, m1⟩; have hs1 := Lib.hid (hSW.out.bl m1); have hi1 := Lib.hid (hIW.out.bl m1); clear d0 d1 d2 d3 d4 d5 d6; obtain ⟨d0, d1, d2, d3, d4, d5, d6⟩ := HC.out.bl m1)
          | (at_lookup; have _t := tokN; refine wpList_lookup_set _ rfl _ _ 71 rfl 9 4 Tryd.underlying9 Tryd.underlying71 Tryd.underlying4 (by kernel_rfl) bn n _ rfl hs1.out x.name hsz rfl ?_; rw [HC6.out]; clear tokN))
        go_returns
        exact ⟨ret_int er.out.symm, bW.trans m1⟩
      · have er : Hid (ckPar size ns ss x = 1) := by show _ = _; unfold ckPar; rw [if_neg e1, if_neg e2, if_neg e3, if_pos (.inr (.inl s2))]
        go_enter Tryd.func38, Tryd.ntmps38
        clear e1 e2 e3
        go_wp2_with (first
          | (go_at_call 37; (try rw [hW]); refine (HN.out _).mono ?_; rintro e w1 ⟨rfl, m1⟩; have hs1 := Lib.hid (hSW.out.bl m1); have hi1 := Lib.hid (hIW.out.bl m1); clear d0 d1 d2 d3 d4 d5 d6; obtain ⟨d0, d1, d2, d3, d4, d5, d6⟩ := HC.out.bl m1)
          | (at_lookup; have _t := tokN; refine wpList_lookup_set _ rfl _ _ 71 rfl 9 4 Tryd.underlying9 Tryd.underlying71 Tryd.underlying4 (by kernel_rfl) bn n _ rfl hs1.out x.name hsz rfl ?_; rw [HC6.out]; clear tokN))
        go_returns
        exact ⟨ret_int er.out.symm, bW.trans m1⟩
      · have er : Hid (ckPar size ns ss x = 1) := by show _ = _; unfold ckPar; rw [if_neg e1, if_neg e2, if_neg e3, if_pos (.inr (.inr (.inl s3)))]
        go_enter Tryd.func38, Tryd.ntmps38
        clear e1 e2 e3
        go_wp2_with (first
          | (go_at_call 37; (try rw [hW]); refine (HN.out _).mono ?_; rintro e w1 ⟨rfl, m1⟩; have hs1 := Lib.hid (hSW.out.bl m1); have hi1 := Lib.hid (hIW.out.bl m1); clear d0 d1 d2 d3 d4 d5 d6; obtain ⟨d0, d1, d2, d3, d4, d5, d6⟩ := HC.out.bl m1)
          | (at_lookup; have _t := tokN; refine wpList_lookup_set _ rfl _ _ 71 rfl 9 4 Tryd.underlying9 Tryd.underlying71 Tryd.underlying4 (by kernel_rfl) bn n _ rfl hs1.out x.name hsz rfl ?_; rw [HC6.out]; clear tokN))
        go_returns
        exact ⟨ret_int er.out.symm, bW.trans m1⟩
      · have er : Hid (ckPar size ns ss x = 1) := by show _ = _; unfold ckPar; rw [if_neg e1, if_neg e2, if_neg e3, if_pos (.inr (.inr (.inr (.inl s4))))]
        go_enter Tryd.func38, Tryd.ntmps38
        clear e1 e2 e3
        go_wp2_with (first
          | (go_at_call 37; (try rw [hW]); refine (HN.out _).mono ?_; rintro e w1 ⟨rfl, m1⟩; have hs1 := Lib.hid (hSW.out.bl m1); have hi1 := Lib.hid (hIW.out.bl m1); clear d0 d1 d2 d3 d4 d5 d6; obtain ⟨d0, d1, d2, d3, d4, d5, d6⟩ := HC.out.bl m1)
          | (at_lookup; have _t := tokN; refine wpList_lookup_set _ rfl _ _ 71 rfl 9 4 Tryd.underlying9 Tryd.underlying71 Tryd.underlying4 (by kernel_rfl) bn n _ rfl hs1.out x.name hsz rfl ?_; rw [HC6.out]; clear tokN))
        go_returns
        exact ⟨ret_int er.out.symm, bW.trans m1⟩
      cases h5 : isLev x.dflt with
      | false =>
        have HLV := Lib.hid (fun w => isLev_is x.dflt false h5 w)
        have er : Hid (ckPar size ns ss x = 1) := by show _ = _; unfold ckPar; rw [if_neg e1, if_neg e2, if_neg e3, if_pos (.inr (.inr (.inr (.inr h5))))]
        go_enter Tryd.func38, Tryd.ntmps38
        clear e1 e2 e3 h5
        go_wp2_with (first
          | (go_at_call 37; (try rw [hW]); refine (HN.out _).mono ?_; rintro e w1 ⟨rfl, m1⟩; have hs1 := Lib.hid (hSW.out.bl m1); have hi1 := Lib.hid (hIW.out.bl m1); clear d0 d1 d2 d3 d4 d5 d6; obtain ⟨d0, d1, d2, d3, d4, d5, d6⟩ := HC.out.bl m1)
          | (at_lookup; have _t := tokN; refine wpList_lookup_set _ rfl _ _ 71 rfl 9 4 Tryd.underlying9 Tryd.underlying71 Tryd.underlying4 (by kernel_rfl) bn n _ rfl hs1.out x.name hsz rfl ?_; rw [HC6.out]; clear tokN)
          | (go_at_call 65; (with_reducible refine (HLV.out _).mono ?_); rintro e w2 ⟨rfl, rfl⟩))
        go_returns
        exact ⟨ret_int er.out.symm, bW.trans m1⟩
      | true =>
        have HLV := Lib.hid (fun w => isLev_is x.dflt true h5 w)
        have e4 : ¬ (x.slot < 1 ∨ size < x.slot ∨ x.fine < 0 ∨ size < x.fine ∨ isLev x.dflt = false) := by
          rw [h5]; rintro (q | q | q | q | q)
          · omega
          · omega
          · omega
          · omega
          · cases q
        clear h5
        have wf1 : (Lit.int .i64 x.slot).wf = true := WalkArith.wf_i64 (by omega)
        have wf2 : (Lit.int .i64 x.fine).wf = true := WalkArith.wf_i64 (by omega)
        have WF1 := Lib.hid wf1
        have WF2 := Lib.hid wf2
        clear wf1 wf2
        by_cases h6 : x.slot = x.fine
        · have er : Hid (ckPar size ns ss x = 12) := by show _ = _; unfold ckPar; rw [if_neg e1, if_neg e2, if_neg e3, if_neg e4, if_pos (.inl h6)]
          have h6' : (x.slot == x.fine) = true := by simpa using h6
          clear h6
          go_enter Tryd.func38, Tryd.ntmps38
          clear e1 e2 e3 e4
          go_wp2_with (first
            | (go_at_call 37; (try rw [hW]); refine (HN.out _).mono ?_; rintro e w1 ⟨rfl, m1⟩; have hs1 := Lib.hid (hSW.out.bl m1); have hi1 := Lib.hid (hIW.out.bl m1); clear d0 d1 d2 d3 d4 d5 d6; obtain ⟨d0, d1, d2, d3, d4, d5, d6⟩ := HC.out.bl m1)
            | (at_lookup; have _t := tokN; refine wpList_lookup_set _ rfl _ _ 71 rfl 9 4 Tryd.underlying9 Tryd.underlying71 Tryd.underlying4 (by kernel_rfl) bn n _ rfl hs1.out x.name hsz rfl ?_; rw [HC6.out]; clear tokN)
            | (go_at_call 65; (with_reducible refine (HLV.out _).mono ?_); rintro e w2 ⟨rfl, rfl⟩))
          go_returns
          exact ⟨ret_int er.out.symm, bW.trans m1⟩
        have h6' : (x.slot == x.fine) = false := by simpa using h6
        cases h7 : ss.contains x.slot with
        | true =>
          have HC7 := Lib.hid h7
          have er : Hid (ckPar size ns ss x = 12) := by show _ = _; unfold ckPar; rw [if_neg e1, if_neg e2, if_neg e3, if_neg e4, if_pos (.inr (.inl h7))]
          clear h6 h7
          go_enter Tryd.func38, Tryd.ntmps38
          clear e1 e2 e3 e4
          go_wp2_with (first
            | (go_at_call 37; (try rw [hW]); refine (HN.out _).mono ?_; rintro e w1 ⟨rfl, m1⟩; have hs1 := Lib.hid (hSW.out.bl m1); have hi1 := Lib.hid (hIW.out.bl m1); clear d0 d1 d2 d3 d4 d5 d6; obtain ⟨d0, d1, d2, d3, d4, d5, d6⟩ := HC.out.bl m1)
            | (at_lookup; have _t := tokN; refine wpList_lookup_set _ rfl _ _ 71 rfl 9 4 Tryd.underlying9 Tryd.underlying71 Tryd.underlying4 (by kernel_rfl) bn n _ rfl hs1.out x.name hsz rfl ?_; rw [HC6.out]; clear tokN)
            | (go_at_call 65; (with_reducible refine (HLV.out _).mono ?_); rintro e w2 ⟨rfl, rfl⟩)
            | (at_lookup; have _t := tokslot; refine wpList_lookup_setg _ (by rfl) _ _ 77 rfl 3 4 Tryd.underlying3 Tryd.underlying77 Tryd.underlying4 (by kernel_rfl) bi m _ rfl hi1.out x.slot WF1.out rfl ?_; rw [HC7.out]; clear tokslot))
          go_returns
          exact ⟨ret_int er.out.symm, bW.trans m1⟩
        | false =>
          have HC7 := Lib.hid h7
          cases h8 : ss.contains x.fine with
          | true =>
            have HC8 := Lib.hid h8
            have er : Hid (ckPar size ns ss x = 12) := by show _ = _; unfold ckPar; rw [if_neg e1, if_neg e2, if_neg e3, if_neg e4, if_pos (.inr (.inr h8))]
            clear h6 h7 h8
            go_enter Tryd.func38, Tryd.ntmps38
            clear e1 e2 e3 e4
            go_wp2_with (first
              | (go_at_call 37; (try rw [hW]); refine (HN.out _).mono ?_; rintro e w1 ⟨rfl, m1⟩; have hs1 := Lib.hid (hSW.out.bl m1); have hi1 := Lib.hid (hIW.out.bl m1); clear d0 d1 d2 d3 d4 d5 d6; obtain ⟨d0, d1, d2, d3, d4, d5, d6⟩ := HC.out.bl m1)
              | (at_lookup; have _t := tokN; refine wpList_lookup_set _ rfl _ _ 71 rfl 9 4 Tryd.underlying9 Tryd.underlying71 Tryd.underlying4 (by kernel_rfl) bn n _ rfl hs1.out x.name hsz rfl ?_; rw [HC6.out]; clear tokN)
              | (go_at_call 65; (with_reducible refine (HLV.out _).mono ?_); rintro e w2 ⟨rfl, rfl⟩)
              | (at_lookup; have _t := tokslot; refine wpList_lookup_setg _ (by rfl) _ _ 77 rfl 3 4 Tryd.underlying3 Tryd.underlying77 Tryd.underlying4 (by kernel_rfl) bi m _ rfl hi1.out x.slot WF1.out rfl ?_; rw [HC7.out]; clear tokslot)
              | (at_lookup; have _t := tokfine; refine wpList_lookup_setg _ (by rfl) _ _ 77 rfl 3 4 Tryd.underlying3 Tryd.underlying77 Tryd.underlying4 (by kernel_rfl) bi m _ rfl hi1.out x.fine WF2.out rfl ?_; rw [HC8.out]; clear tokfine))
            go_returns
            exact ⟨ret_int er.out.symm, bW.trans m1⟩
          | false =>
            have HC8 := Lib.hid h8
            have e5 : ¬ (x.slot = x.fine ∨ ss.contains x.slot = true ∨ ss.contains x.fine = true) := by rw [h7, h8]; simpa using h6
            clear h6 h7 h8
            by_cases h9 : 30 < x.rs.length
            · have er : Hid (ckPar size ns ss x = 2) := by show _ = _; unfold ckPar; rw [if_neg e1, if_neg e2, if_neg e3, if_neg e4, if_neg e5, if_pos h9]
              have h9' : (30 : Int) < (x.rs.length : Int) := by omega
              clear h9
              go_enter Tryd.func38, Tryd.ntmps38
              clear e1 e2 e3 e4 e5
              go_wp2_with (first
                | (go_at_call 37; (try rw [hW]); refine (HN.out _).mono ?_; rintro e w1 ⟨rfl, m1⟩; have hs1 := Lib.hid (hSW.out.bl m1); have hi1 := Lib.hid (hIW.out.bl m1); clear d0 d1 d2 d3 d4 d5 d6; obtain ⟨d0, d1, d2, d3, d4, d5, d6⟩ := HC.out.bl m1)
                | (at_lookup; have _t := tokN; refine wpList_lookup_set _ rfl _ _ 71 rfl 9 4 Tryd.underlying9 Tryd.underlying71 Tryd.underlying4 (by kernel_rfl) bn n _ rfl hs1.out x.name hsz rfl ?_; rw [HC6.out]; clear tokN)
                | (go_at_call 65; (with_reducible refine (HLV.out _).mono ?_); rintro e w2 ⟨rfl, rfl⟩)
                | (at_lookup; have _t := tokslot; refine wpList_lookup_setg _ (by rfl) _ _ 77 rfl 3 4 Tryd.underlying3 Tryd.underlying77 Tryd.underlying4 (by kernel_rfl) bi m _ rfl hi1.out x.slot WF1.out rfl ?_; rw [HC7.out]; clear tokslot)
                | (at_lookup; have _t := tokfine; refine wpList_lookup_setg _ (by rfl) _ _ 77 rfl 3 4 Tryd.underlying3 Tryd.underlying77 Tryd.underlying4 (by kernel_rfl) bi m _ rfl hi1.out x.fine WF2.out rfl ?_; rw [HC8.out]; clear tokfine))
              go_returns
              exact ⟨ret_int er.out.symm, bW.trans m1⟩
            have er : Hid (ckPar size ns ss x = ckRngs (-1) [] x.rs) := by show _ = _; unfold ckPar; rw [if_neg e1, if_neg e2, if_neg e3, if_neg e4, if_neg e5, if_neg h9]
            have h9' : (x.rs.length : Int) ≤ 30 := by omega
            have HR := Lib.hid (fun w' (g : Bl W w') => checkRanges_any (.slice o x.rs.length cap) x.rs w' (HRv.out.bl g) hro (by omega))
            rw [← er.out] at HR
            clear h9 hro HRv
            generalize ckPar size ns ss x = X at *
            go_enter Tryd.func38, Tryd.ntmps38
            clear e1 e2 e3 e4 e5 er
            go_wp2_with (first
              | (go_at_call 37; (try rw [hW]); refine (HN.out _).mono ?_; rintro e w1 ⟨rfl, m1⟩; have hs1 := Lib.hid (hSW.out.bl m1); have hi1 := Lib.hid (hIW.out.bl m1); clear d0 d1 d2 d3 d4 d5 d6; obtain ⟨d0, d1, d2, d3, d4, d5, d6⟩ := HC.out.bl m1)
              | (at_lookup; have _t := tokN; refine wpList_lookup_set _ rfl _ _ 71 rfl 9 4 Tryd.underlying9 Tryd.underlying71 Tryd.underlying4 (by kernel_rfl) bn n _ rfl hs1.out x.name hsz rfl ?_; rw [HC6.out]; clear tokN)
              | (go_at_call 65; (with_reducible refine (HLV.out _).mono ?_); rintro e w2 ⟨rfl, rfl⟩)
              | (at_lookup; have _t := tokslot; refine wpList_lookup_setg _ (by rfl) _ _ 77 rfl 3 4 Tryd.underlying3 Tryd.underlying77 Tryd.underlying4 (by kernel_rfl) bi m _ rfl hi1.out x.slot WF1.out rfl ?_; rw [HC7.out]; clear tokslot)
              | (at_lookup; have _t := tokfine; refine wpList_lookup_setg _ (by rfl) _ _ 77 rfl 3 4 Tryd.underlying3 Tryd.underlying77 Tryd.underlying4 (by kernel_rfl) bi m _ rfl hi1.out x.fine WF2.out rfl ?_; rw [HC8.out]; clear tokfine)
              | (go_at_call 66; refine (HR.out _ m1).mono ?_; rintro e w3 ⟨rfl, m3⟩))
            go_returns
            exact ⟨rfl, bW.trans (m1.trans m3)⟩
end Go.Proofs.YtcidldomnifdeaaDoor
