/- CheckBook of the program. -/
import Derived.Test.YtfamnaekelmkpaaGreatDoorGelM
import Derived.Test.YtfamnaekelmkpaaGreatDoorTtl
namespace Go.Proofs.YtfamnaekelmkpaaGreatDoor
open Go.RowKit Go.Sort

theorem isTitle_is (s : ByteArray) (v : Bool) (h : isTtl s.data.toList = v) (w : World) (hs : s.size ≤ 9223372036854775807) :
    Calls Tryz.prog 17 #[.string s] w fun e w' => e = .returned (.bool v) ∧ Bl w w' := by subst h; exact isTitle_any s w hs
set_option maxRecDepth 100000 in
set_option maxHeartbeats 3200000 in
theorem checkBook_any (v : Value) (L : List Gel) (w : World) (hv : GelVal w v L) (hok : GelsOk L) :
    Calls Tryz.prog 6 #[v] w fun e w' => e = .returned (.int .i64 (ckBook L)) ∧ Bl w w' := by
  obtain ⟨o, cap, rfl, hm, hp⟩ := hv
  by_cases h500 : 500 < L.length
  · have e : Hid (ckBook L = 2) := by show _ = _; unfold ckBook; rw [if_pos h500]
    have t1 : (500 : Int) < (L.length : Int) := by omega
    clear hp h500
    go_enter Tryz.func6, Tryz.ntmps6
    go_wp2
    go_returns
    exact ⟨ret_int e.out.symm, Bl.refl w⟩
  · have e : Hid (ckBook L = ckGels 0 L) := by show _ = _; unfold ckBook; rw [if_neg h500]
    have t1 : (L.length : Int) ≤ 500 := by omega
    have HP := Lib.hid hp
    have HO := Lib.hid hok
    clear hp hok h500
    go_enter Tryz.func6, Tryz.ntmps6
    go_wp2
    go_loopw [3, 12] (fun va vi wr => ∃ (k : Nat) (a : Int), k ≤ L.length ∧ vi = .int .i64 k ∧ va = .int .i64 a ∧ Hid (ckBook L = ckGels a (L.drop k)) ∧ Hid (Bl w wr)) (fun _ vi _ => L.length - (intOf vi).toNat)
    case atStart => exact ⟨0, 0, Nat.zero_le _, rfl, rfl, e, Bl.refl w⟩
    case round =>
      obtain ⟨k, a, hk, rfl, rfl, HK, HB⟩ := hrel
      rename World => wr
      by_cases hlt : k < L.length
      · obtain ⟨b, off, rfl, hL⟩ := HP.out (by omega)
        have hstep := Lib.hid (ckGels_at L k hlt a)
        obtain ⟨c0, c1, c2, c3, c4⟩ := (hL.bl HB.out) k hlt
        have hsz := HO.out L[k] (List.getElem_mem hlt)
        obtain ⟨x, hx⟩ : ∃ x, x = L[k] := ⟨_, rfl⟩
        rw [← hx] at hstep c0 c1 c2 c3 c4 hsz
        clear hx hL
        have k1 : (k : Int) < (L.length : Int) := by omega
        have stop : ∀ X : Int, X ≠ 0 → ckGel a x = X → Hid (ckBook L = X) := fun X h0 h => by
          show _ = _; rw [HK.out, hstep.out, h, if_neg h0]
        obtain ⟨W, hW⟩ : ∃ W, W = wr.alloc (.cells #[.int .i64 x.n, .string x.name, .int .i64 x.r, .int .i64 x.g, .int .i64 x.b] 33) := ⟨_, rfl⟩
        have bW : Bl w W := by rw [hW]; exact HB.out.alloc _
        have HC5 := Lib.hid (show Cel5 W wr.heap.size 0 x by rw [hW]; exact Cel5.new _ _ _)
        by_cases hr : x.n < 1 ∨ 9999 < x.n
        · have er := stop 1 (by decide) (by unfold ckGel; rw [if_pos hr])
          clear stop hstep HK hW
          rcases hr with hr | hr
          · go_wp2
            go_ret
            exact ⟨ret_int er.out.symm, HB.out.alloc _⟩
          · have hr' : 1 ≤ x.n := by omega
            go_wp2
            go_ret
            exact ⟨ret_int er.out.symm, HB.out.alloc _⟩
        have r1 : 1 ≤ x.n := by omega
        have r2 : x.n ≤ 9999 := by omega
        by_cases ho : x.n ≤ a
        · have er := stop 7 (by decide) (by unfold ckGel; rw [if_neg hr, if_pos ho])
          clear stop hstep HK hW hr
          go_wp2
          go_ret
          exact ⟨ret_int er.out.symm, HB.out.alloc _⟩
        have o1 : a < x.n := by omega
        cases ht : isTtl x.name.data.toList with
        | false =>
          have er := stop 3 (by decide) (by unfold ckGel; rw [if_neg hr, if_neg ho, if_pos ht])
          have HT := Lib.hid (fun w => isTitle_is x.name false ht w hsz)
          clear stop hstep HK hr ho ht
          go_wp2_with (go_at_call 17; (try rw [← hW]); refine (HT.out _).mono ?_; rintro e w1 ⟨rfl, m1⟩)
          go_ret
          exact ⟨ret_int er.out.symm, bW.trans m1⟩
        | true =>
          have HT := Lib.hid (fun w => isTitle_is x.name true ht w hsz)
          have HCC := Lib.hid (fun w => check_col x.r x.g x.b w)
          have hcg : ckGel a x = ckCol x.r x.g x.b := by unfold ckGel; rw [if_neg hr, if_neg ho, if_neg (by rw [ht]; decide)]
          by_cases hc : ckCol x.r x.g x.b = 0
          · have hn : Hid (ckBook L = ckGels x.n (L.drop (k + 1))) := by show _ = _; rw [HK.out, hstep.out, hcg, if_pos hc]
            rw [hc] at HCC
            clear stop hstep HK hr ho ht hc hcg
            go_wp2_with (first
              | (go_at_call 17; (try rw [← hW]); refine (HT.out _).mono ?_; rintro e w1 ⟨rfl, m1⟩; obtain ⟨d0, d1, d2, d3, d4⟩ := HC5.out.bl m1)
              | (go_at_call 18; refine (HCC.out _).mono ?_; rintro e w2 ⟨rfl, m2⟩; clear d0 d1 d2 d3 d4; obtain ⟨d0, d1, d2, d3, d4⟩ := HC5.out.bl (m1.trans m2.bl)))
            go_roundw
            case rel => exact ⟨k + 1, x.n, by omega, by go_num, rfl, hn, (bW.trans m1).trans m2.bl⟩
            case measure => simp [intOf]; omega
          · have er := stop _ hc hcg
            have hcb : (ckCol x.r x.g x.b != 0) = true := by simpa using hc
            clear stop hstep HK hr ho ht hc hcg
            generalize ckCol x.r x.g x.b = X at *
            go_wp2_with (first
              | (go_at_call 17; (try rw [← hW]); refine (HT.out _).mono ?_; rintro e w1 ⟨rfl, m1⟩; obtain ⟨d0, d1, d2, d3, d4⟩ := HC5.out.bl m1)
              | (go_at_call 18; refine (HCC.out _).mono ?_; rintro e w2 ⟨rfl, m2⟩; clear d0 d1 d2 d3 d4; obtain ⟨d0, d1, d2, d3, d4⟩ := HC5.out.bl (m1.trans m2.bl)))
            go_ret
            exact ⟨ret_int er.out.symm, (bW.trans m1).trans m2.bl⟩
      · obtain rfl : k = L.length := by omega
        have er : Hid (ckBook L = 0) := by show _ = _; rw [HK.out, List.drop_length]; rfl
        clear HK HP
        go_wp2
        go_ret
        exact ⟨ret_int er.out.symm, HB.out⟩
end Go.Proofs.YtfamnaekelmkpaaGreatDoor
