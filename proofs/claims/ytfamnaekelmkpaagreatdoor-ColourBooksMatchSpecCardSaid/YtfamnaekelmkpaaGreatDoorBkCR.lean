/- CheckBook of the reference. -/
import Derived.Test.YtfamnaekelmkpaaGreatDoorGelM
import Derived.Test.YtfamnaekelmkpaaGreatDoorTtlR
import Derived.Test.YtfamnaekelmkpaaGreatDoorColR
import Derived.Deep.QuietTactic
namespace Go.Proofs.YtfamnaekelmkpaaGreatDoor
open Go.RowKit Go.Sort

theorem within_is (n : Int) (v : Bool) (h : (decide (1 ≤ n) && decide (n ≤ 9999)) = v) (w : World) :
    Calls Tryz.prog 19 #[.int .i64 n, .int .i64 1, .int .i64 9999] w fun e w' => e = .returned (.bool v) ∧ w = w' := by subst h; exact within_any n 1 9999 w
theorem isTitleR_is (s : ByteArray) (v : Bool) (h : isTtl s.data.toList = v) (w : World) :
    Calls Tryz.prog 20 #[.string s] w fun e w' => e = .returned (.bool v) ∧ w' = w := by subst h; exact isTitle_ref s w
/-- The number ahead of a gel. -/
def aheadOf (L : List Gel) (k : Nat) : Int := if k = 0 then 0 else (L.map (·.n))[k - 1]?.getD 0
theorem ahead_succ (L : List Gel) (k : Nat) (h : k < L.length) : aheadOf L (k + 1) = L[k].n := by
  unfold aheadOf
  rw [if_neg (by omega), show k + 1 - 1 = k by omega, List.getElem?_map, List.getElem?_eq_getElem h]; rfl
set_option maxRecDepth 100000 in
set_option maxHeartbeats 3200000 in
theorem checkBook_ref (v : Value) (L : List Gel) (w : World) (hv : GelVal w v L) :
    Calls Tryz.prog 7 #[v] w fun e w' => e = .returned (.int .i64 (ckBook L)) ∧ Bl w w' := by
  obtain ⟨o, cap, rfl, hm, hp⟩ := hv
  by_cases h500 : 500 < L.length
  · have e : Hid (ckBook L = 2) := by show _ = _; unfold ckBook; rw [if_pos h500]
    have t1 : (500 : Int) < (L.length : Int) := by omega
    clear hp h500
    go_enter Tryz.func7, Tryz.ntmps7
    go_wp2
    go_returns
    exact ⟨ret_int e.out.symm, Bl.refl w⟩
  · have e : Hid (ckBook L = ckGels 0 L) := by show _ = _; unfold ckBook; rw [if_neg h500]
    have t1 : (L.length : Int) ≤ 500 := by omega
    have HP := Lib.hid hp
    clear hp h500
    go_enter Tryz.func7, Tryz.ntmps7
    go_wp2
    go_loopw [11] (fun vi wr => ∃ k : Nat, k ≤ L.length ∧ vi = .int .i64 k ∧ Hid (ckBook L = ckGels (aheadOf L k) (L.drop k)) ∧ Hid (Bl w wr)) (fun vi _ => L.length - (intOf vi).toNat)
    case atStart => exact ⟨0, Nat.zero_le _, rfl, e, Bl.refl w⟩
    case round =>
      obtain ⟨k, hk, rfl, HK, HB⟩ := hrel
      rename World => wr
      by_cases hlt : k < L.length
      · obtain ⟨b, off, rfl, hL⟩ := HP.out (by omega)
        have hstep := Lib.hid (ckGels_at L k hlt (aheadOf L k))
        have hsucc := Lib.hid (ahead_succ L k hlt)
        obtain ⟨c0, c1, c2, c3, c4⟩ := (hL.bl HB.out) k hlt
        have HLL := Lib.hid hL
        obtain ⟨x, hx⟩ : ∃ x, x = L[k] := ⟨_, rfl⟩
        rw [← hx] at hstep hsucc c0 c1 c2 c3 c4
        clear hx hL
        have k1 : (k : Int) < (L.length : Int) := by omega
        have stop : ∀ X : Int, X ≠ 0 → ckGel (aheadOf L k) x = X → Hid (ckBook L = X) := fun X h0 h => by
          show _ = _; rw [HK.out, hstep.out, h, if_neg h0]
        obtain ⟨W, hW⟩ : ∃ W, W = wr.alloc (.cells #[.int .i64 x.n, .string x.name, .int .i64 x.r, .int .i64 x.g, .int .i64 x.b] 33) := ⟨_, rfl⟩
        have bW : Bl w W := by rw [hW]; exact HB.out.alloc _
        have HC5 := Lib.hid (show Cel5 W wr.heap.size 0 x by rw [hW]; exact Cel5.new _ _ _)
        cases hr : (decide (1 ≤ x.n) && decide (x.n ≤ 9999)) with
        | false =>
          have HWI := Lib.hid (fun w => within_is x.n false hr w)
          have hr' : x.n < 1 ∨ 9999 < x.n := by
            rcases Bool.and_eq_false_iff.1 hr with h | h
            · exact .inl (by have := of_decide_eq_false h; omega)
            · exact .inr (by have := of_decide_eq_false h; omega)
          have er := stop 1 (by decide) (by unfold ckGel; rw [if_pos hr'])
          clear stop hstep HK hW hr hr'
          go_wp2_with (go_at_call 19; refine (HWI.out _).mono ?_; rintro e w1 ⟨rfl, rfl⟩)
          go_ret
          exact ⟨ret_int er.out.symm, HB.out.alloc _⟩
        | true =>
          have HWI := Lib.hid (fun w => within_is x.n true hr w)
          obtain ⟨r1, r2⟩ := Bool.and_eq_true_iff.1 hr
          have r1 := of_decide_eq_true r1
          have r2 := of_decide_eq_true r2
          have hr' : ¬ (x.n < 1 ∨ 9999 < x.n) := by omega
          have HTI := Lib.hid (fun v h w => isTitleR_is x.name v h w)
          have HCC := Lib.hid (fun w => check_ref3 x.r x.g x.b w)
          clear hr
          have htl : ∀ (a : Int), aheadOf L k = a → ¬ x.n ≤ a → isTtl x.name.data.toList = false → Hid (ckBook L = 3) := fun a ha h1 h2 => stop 3 (by decide) (by unfold ckGel; rw [ha, if_neg hr', if_neg h1, if_pos h2])
          have hcl : ∀ (a : Int), aheadOf L k = a → ¬ x.n ≤ a → isTtl x.name.data.toList = true → ckGel (aheadOf L k) x = ckCol x.r x.g x.b := fun a ha h1 h2 => by unfold ckGel; rw [ha, if_neg hr', if_neg h1, if_neg (by rw [h2]; decide)]
          have hnx : ckGel (aheadOf L k) x = 0 → Hid (ckBook L = ckGels (aheadOf L (k + 1)) (L.drop (k + 1))) := fun h => by show _ = _; rw [HK.out, hstep.out, if_pos h, hsucc.out]
          have hod : ∀ (a : Int), aheadOf L k = a → x.n ≤ a → Hid (ckBook L = 7) := fun a ha h1 => stop 7 (by decide) (by unfold ckGel; rw [ha, if_neg hr', if_pos h1])
          clear hstep HK hsucc
          rcases Nat.eq_zero_or_pos k with rfl | hkp
          · have ha : aheadOf L 0 = 0 := rfl
            simp only [Nat.zero_mul, Nat.add_zero] at c0 c1 c2 c3 c4
            have hn0 : ¬ x.n ≤ 0 := by omega
            have htl := htl 0 ha hn0
            have hcl := hcl 0 ha hn0
            clear hod ha
            cases ht : isTtl x.name.data.toList with
            | false =>
              have er := htl ht
              have HT := Lib.hid (HTI.out false ht)
              clear htl hcl hnx stop ht HTI
              go_wp2_with (go_at_call 19; (try rw [← hW]); refine (HWI.out _).mono ?_; rintro e w1 ⟨rfl, rfl⟩; obtain ⟨d0, d1, d2, d3, d4⟩ := HC5.out)
              go_quiet (fail)
              go_wp2_with (go_at_call 20; refine (HT.out _).mono ?_; rintro e w2 ⟨rfl, rfl⟩)
              go_ret
              exact ⟨ret_int er.out.symm, (HB.out.alloc _).drewN _⟩
            | true =>
              have hcg := hcl ht
              have HT := Lib.hid (HTI.out true ht)
              by_cases hc : ckCol x.r x.g x.b = 0
              · have hn := hnx (hcg.trans hc)
                rw [hc] at HCC
                clear htl hcl hnx stop ht HTI hcg hc
                go_wp2_with (go_at_call 19; (try rw [← hW]); refine (HWI.out _).mono ?_; rintro e w1 ⟨rfl, rfl⟩; obtain ⟨d0, d1, d2, d3, d4⟩ := HC5.out)
                go_quiet (fail)
                go_wp2_with (first
                  | (go_at_call 20; refine (HT.out _).mono ?_; rintro e w2 ⟨rfl, rfl⟩)
                  | (go_at_call 21; refine (HCC.out _).mono ?_; rintro e w3 ⟨rfl, m3⟩))
                have hfin := ((HB.out.alloc _).drewN _).trans m3
                refine ⟨⟨0 + 1, by omega, by congr 1, hn, hfin⟩, by simp [intOf]; omega⟩
              · have er := stop _ hc hcg
                have hcb : (ckCol x.r x.g x.b != 0) = true := by simpa using hc
                clear htl hcl hnx stop ht HTI hcg hc
                generalize ckCol x.r x.g x.b = X at *
                go_wp2_with (go_at_call 19; (try rw [← hW]); refine (HWI.out _).mono ?_; rintro e w1 ⟨rfl, rfl⟩; obtain ⟨d0, d1, d2, d3, d4⟩ := HC5.out)
                go_quiet (fail)
                go_wp2_with (first
                  | (go_at_call 20; refine (HT.out _).mono ?_; rintro e w2 ⟨rfl, rfl⟩)
                  | (go_at_call 21; refine (HCC.out _).mono ?_; rintro e w3 ⟨rfl, m3⟩))
                go_ret
                exact ⟨ret_int er.out.symm, ((HB.out.alloc _).drewN _).trans m3⟩
          · obtain ⟨j, rfl⟩ : ∃ j, k = j + 1 := ⟨k - 1, by omega⟩
            have ha : aheadOf L (j + 1) = L[j].n := ahead_succ L j (by omega)
            obtain ⟨p0, _, _, _, _⟩ := (HLL.out.bl bW) j (by omega)
            rw [hW] at p0
            have hwj : IntKind.i64.wrap (j : Int) = j := IntWalk.i64_in _ (by omega)
            have j1 : (j : Int) < (L.length : Int) := by omega
            generalize L[j].n = pn at *
            by_cases ho : x.n ≤ pn
            · have er := hod pn ha ho
              clear htl hcl hnx hod stop ha
              go_wp2_with (go_at_call 19; (try rw [← hW]); refine (HWI.out _).mono ?_; rintro e w1 ⟨rfl, rfl⟩; obtain ⟨d0, d1, d2, d3, d4⟩ := HC5.out)
              go_quiet (fail)
              go_wp2
              go_ret
              exact ⟨ret_int er.out.symm, (HB.out.alloc _).drewN _⟩
            · have ho' : pn < x.n := by omega
              have htl := htl pn ha ho
              have hcl := hcl pn ha ho
              clear hod ha ho
              cases ht : isTtl x.name.data.toList with
              | false =>
                have er := htl ht
                have HT := Lib.hid (HTI.out false ht)
                clear htl hcl hnx stop ht HTI
                go_wp2_with (go_at_call 19; (try rw [← hW]); refine (HWI.out _).mono ?_; rintro e w1 ⟨rfl, rfl⟩; obtain ⟨d0, d1, d2, d3, d4⟩ := HC5.out)
                go_quiet (fail)
                go_wp2_with (go_at_call 20; refine (HT.out _).mono ?_; rintro e w2 ⟨rfl, rfl⟩)
                go_ret
                exact ⟨ret_int er.out.symm, (HB.out.alloc _).drewN _⟩
              | true =>
                have hcg := hcl ht
                have HT := Lib.hid (HTI.out true ht)
                by_cases hc : ckCol x.r x.g x.b = 0
                · have hn := hnx (hcg.trans hc)
                  rw [hc] at HCC
                  clear htl hcl hnx stop ht HTI hcg hc
                  go_wp2_with (go_at_call 19; (try rw [← hW]); refine (HWI.out _).mono ?_; rintro e w1 ⟨rfl, rfl⟩; obtain ⟨d0, d1, d2, d3, d4⟩ := HC5.out)
                  go_quiet (fail)
                  go_wp2_with (first
                    | (go_at_call 20; refine (HT.out _).mono ?_; rintro e w2 ⟨rfl, rfl⟩)
                    | (go_at_call 21; refine (HCC.out _).mono ?_; rintro e w3 ⟨rfl, m3⟩))
                  have hfin := ((HB.out.alloc _).drewN _).trans m3
                  refine ⟨⟨j + 1 + 1, by omega, by congr 1, hn, hfin⟩, by simp [intOf]; omega⟩
                · have er := stop _ hc hcg
                  have hcb : (ckCol x.r x.g x.b != 0) = true := by simpa using hc
                  clear htl hcl hnx stop ht HTI hcg hc
                  generalize ckCol x.r x.g x.b = X at *
                  go_wp2_with (go_at_call 19; (try rw [← hW]); refine (HWI.out _).mono ?_; rintro e w1 ⟨rfl, rfl⟩; obtain ⟨d0, d1, d2, d3, d4⟩ := HC5.out)
                  go_quiet (fail)
                  go_wp2_with (first
                    | (go_at_call 20; refine (HT.out _).mono ?_; rintro e w2 ⟨rfl, rfl⟩)
                    | (go_at_call 21; refine (HCC.out _).mono ?_; rintro e w3 ⟨rfl, m3⟩))
                  go_ret
                  exact ⟨ret_int er.out.symm, ((HB.out.alloc _).drewN _).trans m3⟩
      · obtain rfl : k = L.length := by omega
        have er : Hid (ckBook L = 0) := by show _ = _; rw [HK.out, List.drop_length]; rfl
        clear HK HP
        go_wp2
        go_ret
        exact ⟨ret_int er.out.symm, HB.out⟩
end Go.Proofs.YtfamnaekelmkpaaGreatDoor
