/- The words of a parameter, as the program writes them. -/
import Derived.Test.YtcidldomnifdeaaDoorFxL
import Derived.Test.YtcidldomnifdeaaDoorFxT
import Derived.Test.YtcidldomnifdeaaDoorLvT
import Derived.Test.YtcidldomnifdeaaDoorItoa
import Derived.Deep.RegionHeld3
namespace Go.Proofs.YtcidldomnifdeaaDoor
open Go.RowKit Go.Sort Go.Lib

def PowAt (w : World) : Prop := TabIs Tryd.prog w "internal/strconv.uint64pow10" .u64 pow10Tab
theorem PowAt.bl {w w' : World} (h : PowAt w) (g : Bl w w') : PowAt w' := tab_bl h g
/-- The table of the groups' words lies in memory. -/
def GwAt (w : World) : Prop := ∀ g : Nat, g ≤ 4 → w.cell? ⟨0, g, none⟩ = some (.string (bs (gW g)))
theorem GwAt.bl {w w' : World} (h : GwAt w) (g : Bl w w') : GwAt w' := fun k hk => g.cell (h k hk)
theorem itoa_bl (n : Int) (w : World) (h0 : 0 ≤ n) (h1 : n ≤ 65535) (ht : PowAt w) :
    Calls Tryd.prog 27 #[.int .i64 n] w fun e w' => e = .returned (.string (bs (decDigits n.toNat))) ∧ Bl w w' := by
  refine (itoa_any n w h0 (by omega) ht).mono ?_
  rintro e w' ⟨rfl, hw⟩
  exact ⟨rfl, hw.bl⟩
theorem sum_ok {a b : ByteArray} {m n : Nat} (ha : a.size ≤ m) (hb : b.size ≤ n) (h : m + n ≤ 10000000) : (∀ w, (Op.stringOp .add a b).run Tryd.prog w = .ok (.string (a ++ b)) w) ∧ (a ++ b).size ≤ m + n :=
  ⟨fun w => run_string_add_sum w _ _ (by omega), by rw [ByteArray.size_append]; omega⟩
theorem app_list (a b : ByteArray) : (a ++ b).data.toList = a.data.toList ++ b.data.toList := by
  rw [ByteArray.data_append, Array.toList_append]
theorem bs_eq {S : ByteArray} {l : List UInt8} (h : S.data.toList = l) : S = bs l := by rw [← h, bs_of]
set_option maxHeartbeats 800000 in
theorem show_fx (n : Int) (w : World) (h0 : 0 ≤ n) (h1 : n ≤ 65535) (ht : PowAt w) :
    Calls Tryd.prog 29 #[.int .i64 n] w fun e w' => e = .returned (.string (bs (lvShow n))) ∧ Bl w w' := by
  have hl : isLev n = true := isLev_iff.2 ⟨h0, h1⟩
  have e1 : lsR n = .returned (.tuple #[.string (bs (lvShow n)), .int .i64 0]) := by unfold lsR; rw [if_pos hl, if_pos hl]
  have H := Lib.hid (show_any n w ht)
  rw [e1] at H
  generalize bs (lvShow n) = S at *
  clear e1 hl ht
  go_enter Tryd.func29, Tryd.ntmps29
  go_wp2_with (go_at_call 61; refine H.out.mono ?_; rintro e w1 ⟨rfl, m1⟩)
  go_returns
  exact ⟨rfl, m1.bl⟩

set_option maxRecDepth 100000 in
set_option maxHeartbeats 6400000 in
theorem paramText_any (x : Par) (vr : Value) (size : Int) (w : World) (hr : ∃ o c, vr = .slice o x.rs.length c) (hg : ParGood size x) (h512 : size ≤ 512) (hpw : PowAt w) (hgw : GwAt w) :
    Calls Tryd.prog 28 #[.agg #[.string x.name, .int .i64 x.grp, .int .i64 x.slot, .int .i64 x.fine, .int .i64 x.dflt, .bool x.snap, vr]] w fun e w' => e = .returned (.string (bs (fxWords x))) ∧ Bl w w' := by
  obtain ⟨hnm, ⟨g1, g2⟩, ⟨s1, s2⟩, ⟨f1, f2⟩, ⟨l1, l2⟩, _⟩ := hg
  obtain ⟨o, c, rfl⟩ := hr
  obtain ⟨W, hW⟩ : ∃ W, W = w.alloc (.cells #[.string x.name, .int .i64 x.grp, .int .i64 x.slot, .int .i64 x.fine, .int .i64 x.dflt, .bool x.snap, .slice o x.rs.length c] 46) := ⟨_, rfl⟩
  have bW : Bl w W := by rw [hW]; exact (Bl.refl w).alloc _
  have HC := Lib.hid (show ∀ w', Bl W w' → CelP w' w.heap.size 0 x (.slice o x.rs.length c) from fun w' g => CelP.bl (by rw [hW]; exact CelP.new _ _ _ _) g)
  obtain ⟨g, hgg⟩ : ∃ g : Nat, x.grp = (g : Int) := ⟨x.grp.toNat, by omega⟩
  have hgi : (g : Int) < 5 := by omega
  have HI1 := Lib.hid (fun w' (m : Bl W w') => itoa_bl x.slot w' (by omega) (by omega) (hpw.bl (bW.trans m)))
  have HI2 := Lib.hid (fun w' (m : Bl W w') => itoa_bl x.fine w' (by omega) (by omega) (hpw.bl (bW.trans m)))
  have HSh := Lib.hid (fun w' (m : Bl W w') => show_fx x.dflt w' l1 l2 (hpw.bl (bW.trans m)))
  have HG := Lib.hid (fun w' (m : Bl W w') => (hgw.bl (bW.trans m)) g (by omega))
  have HX : Hid (∀ F D P : List UInt8, F = fxFine x.fine → D = fxDflt x.dflt → P = fxSnap x.snap → gW g ++ [32] ++ nmP x ++ fxAt ++ decDigits x.slot.toNat ++ F ++ D ++ P = fxWords x) := by
    show ∀ _, _; rintro F D P rfl rfl rfl; unfold fxWords; rw [show x.grp.toNat = g by omega]
  have hn20 : x.name.size ≤ 20 := by rw [← lst_len]; exact isNm_len hnm
  have hA9 : (bs (gW g)).size ≤ 9 := by rw [bs_size]; exact gW_len g
  have hD5 : (bs (decDigits x.slot.toNat)).size ≤ 5 := by rw [bs_size]; exact dd5 (by omega) (by omega)
  have hF5 : (bs (decDigits x.fine.toNat)).size ≤ 5 := by rw [bs_size]; exact dd5 (by omega) (by omega)
  have hL10 : (bs (lvShow x.dflt)).size ≤ 10 := by rw [bs_size]; exact lvShow_l10 l1 l2
  obtain ⟨Ga, hGa⟩ : ∃ G, G = bs (gW g) := ⟨_, rfl⟩
  obtain ⟨Da, hDa⟩ : ∃ G, G = bs (decDigits x.slot.toNat) := ⟨_, rfl⟩
  obtain ⟨Fa, hFa⟩ : ∃ G, G = bs (decDigits x.fine.toNat) := ⟨_, rfl⟩
  obtain ⟨La, hLa⟩ : ∃ G, G = bs (lvShow x.dflt) := ⟨_, rfl⟩
  rw [← hGa] at hA9 HG
  rw [← hDa] at hD5 HI1
  rw [← hFa] at hF5 HI2
  rw [← hLa] at hL10 HSh
  have HGa := Lib.hid hGa
  have HDa := Lib.hid hDa
  have HFa := Lib.hid hFa
  have HLa := Lib.hid hLa
  clear hGa hDa hFa hLa
  obtain ⟨R1, q1⟩ := sum_ok (a := Ga) (b := ⟨#[32]⟩) (n := 1) hA9 (Nat.le_refl 1) (by decide)
  obtain ⟨R2, q2⟩ := sum_ok (a := Ga ++ ⟨#[32]⟩) (b := x.name) q1 hn20 (by decide)
  obtain ⟨R3, q3⟩ := sum_ok (a := Ga ++ ⟨#[32]⟩ ++ x.name) (b := ⟨#[32, 97, 116, 32]⟩) (n := 4) q2 (Nat.le_refl 4) (by decide)
  obtain ⟨R4, q4⟩ := sum_ok (a := Ga ++ ⟨#[32]⟩ ++ x.name ++ ⟨#[32, 97, 116, 32]⟩) (b := Da) q3 hD5 (by decide)
  obtain ⟨R5, q5⟩ := sum_ok (a := ⟨#[32, 102, 105, 110, 101, 32]⟩) (m := 6) (b := Fa) (Nat.le_refl 6) hF5 (by decide)
  obtain ⟨R6, q6⟩ := sum_ok (a := ⟨#[32, 100, 101, 102, 97, 117, 108, 116, 32]⟩) (m := 9) (b := La) (Nat.le_refl 9) hL10 (by decide)
  have hT : Hid (Ga ++ ⟨#[32]⟩ ++ x.name ++ ⟨#[32, 97, 116, 32]⟩ ++ Da = bs (gW g ++ [32] ++ nmP x ++ fxAt ++ decDigits x.slot.toNat)) := by
    show _ = _
    refine bs_eq ?_
    rw [app_list, app_list, app_list, app_list, HGa.out, HDa.out, bs_list, bs_list]; rfl
  obtain ⟨k0, k1, k2, k3, k4, k5, k6⟩ := HC.out W (Bl.refl _)
  simp only [Nat.zero_add] at k1 k2 k3 k4 k5 k6
  rw [hgg] at k1
  have kg := HG.out W (Bl.refl _)
  have kgl : 0 < W.heap.size := World.block_lt_of_cell? _ _ kg
  have c0 := k0
  have c1 := k1
  have c2 := k2
  have cg := kg
  rw [hgg] at hW ⊢
  clear hpw hgw hnm g1 g2
  go_enter Tryd.func28, Tryd.ntmps28
  go_wp2_with fail
  rw [← hW]
  clear hW
  go_region_held3 (fun w' => w'.cell? ⟨w.heap.size, 0, none⟩ = some (.string x.name) ∧ w'.cell? ⟨w.heap.size, 1, none⟩ = some (.int .i64 (g : Int)) ∧ w'.cell? ⟨w.heap.size, 2, none⟩ = some (.int .i64 x.slot) ∧ w'.cell? ⟨0, g, none⟩ = some (.string Ga))
    (refine ⟨Bl.cell (w := W) ?_ c0, Bl.cell (w := W) ?_ c1, Bl.cell (w := W) ?_ c2, Bl.cell (w := W) ?_ cg⟩ <;> ((repeat (first | with_reducible exact Bl.refl _ | with_reducible assumption | with_reducible refine Bl.drew ?_ | with_reducible refine Bl.alloc ?_ _ | with_reducible refine Bl.trans ?_ (by assumption))); done))
    (first
      | (go_at_call 27; (with_reducible refine (HI1.out _ (by ((repeat (first | with_reducible exact Bl.refl _ | with_reducible assumption | with_reducible refine Bl.drew ?_ | with_reducible refine Bl.alloc ?_ _ | with_reducible refine Bl.trans ?_ (by assumption))); done))).mono ?_); rintro e' w6 ⟨rfl, m6⟩))
  have b6 : Bl W w6 := by ((repeat (first | with_reducible exact Bl.refl _ | with_reducible assumption | with_reducible refine Bl.drew ?_ | with_reducible refine Bl.alloc ?_ _ | with_reducible refine Bl.trans ?_ (by assumption))); done)
  have B6 := Lib.hid b6
  clear k0 k1 k2 k3 k4 k5 k6 kg kgl c0 c1 c2 cg R1 R2 R3 R4 q1 q2 q3
  obtain ⟨k0, k1, k2, k3, k4, k5, k6⟩ := HC.out _ b6
  simp only [Nat.zero_add] at k1 k2 k3 k4 k5 k6
  clear b6
  generalize Ga ++ ⟨#[32]⟩ ++ x.name ++ ⟨#[32, 97, 116, 32]⟩ ++ Da = T at *
  clear HI1 HG HGa HDa hA9 hD5 hn20
  by_cases hf : x.fine = 0
  · by_cases hd : x.dflt = 0
    · cases hs : x.snap with
      | false =>
        have hf' : (x.fine != 0) = false := by simpa using hf
        have hd' : (x.dflt != 0) = false := by simpa using hd
        have hV : Hid (T = bs (fxWords x)) := by
          show _ = _
          rw [← HX.out ([]) ([]) ([]) (by unfold fxFine; rw [if_pos hf]) (by unfold fxDflt; rw [if_pos hd]) (by rw [hs]; rfl)]
          refine bs_eq ?_
          simp only [hT.out, bs_list, List.append_assoc, List.append_nil]
        clear hT HX hf hd
        rw [hs] at k5
        go_wp2_with fail
        go_returns
        exact ⟨by rw [← hV.out]; rfl, bW.trans B6.out⟩
      | true =>
        have hf' : (x.fine != 0) = false := by simpa using hf
        have hd' : (x.dflt != 0) = false := by simpa using hd
        obtain ⟨R9, q9⟩ := sum_ok (a := T) (b := ⟨#[32, 115, 110, 97, 112]⟩) (n := 5) q4 (Nat.le_refl 5) (by decide)
        have hV : Hid (T ++ ⟨#[32, 115, 110, 97, 112]⟩ = bs (fxWords x)) := by
          show _ = _
          rw [← HX.out ([]) ([]) ([32, 115, 110, 97, 112]) (by unfold fxFine; rw [if_pos hf]) (by unfold fxDflt; rw [if_pos hd]) (by rw [hs]; rfl)]
          refine bs_eq ?_
          simp only [app_list, hT.out, bs_list, List.append_assoc, List.append_nil]
          try rfl
        clear hT HX hf hd
        rw [hs] at k5
        go_wp2_with fail
        go_returns
        exact ⟨by rw [← hV.out]; rfl, bW.trans B6.out⟩
    · cases hs : x.snap with
      | false =>
        have hf' : (x.fine != 0) = false := by simpa using hf
        have hd' : (x.dflt != 0) = true := by simpa using hd
        obtain ⟨R8, q8⟩ := sum_ok (a := T) (b := ⟨#[32, 100, 101, 102, 97, 117, 108, 116, 32]⟩ ++ La) q4 q6 (by decide)
        have hV : Hid (T ++ (⟨#[32, 100, 101, 102, 97, 117, 108, 116, 32]⟩ ++ La) = bs (fxWords x)) := by
          show _ = _
          rw [← HX.out ([]) ([32, 100, 101, 102, 97, 117, 108, 116, 32] ++ lvShow x.dflt) ([]) (by unfold fxFine; rw [if_pos hf]) (by unfold fxDflt; rw [if_neg hd]) (by rw [hs]; rfl)]
          refine bs_eq ?_
          simp only [app_list, hT.out, HLa.out, bs_list, List.append_assoc, List.append_nil]
          try rfl
        clear hT HX hf hd
        rw [hs] at k5
        go_wp2_with (first
          | (go_at_call 29; (with_reducible refine (HSh.out _ B6.out).mono ?_); rintro e' w8 ⟨rfl, m8⟩; have B8 := Lib.hid (B6.out.trans m8); clear k0 k1 k2 k3 k4 k5 k6; obtain ⟨k0, k1, k2, k3, k4, k5, k6⟩ := HC.out _ B8.out; simp only [Nat.zero_add] at k1 k2 k3 k4 k5 k6; rw [hs] at k5))
        go_returns
        exact ⟨by rw [← hV.out]; rfl, bW.trans B8.out⟩
      | true =>
        have hf' : (x.fine != 0) = false := by simpa using hf
        have hd' : (x.dflt != 0) = true := by simpa using hd
        obtain ⟨R8, q8⟩ := sum_ok (a := T) (b := ⟨#[32, 100, 101, 102, 97, 117, 108, 116, 32]⟩ ++ La) q4 q6 (by decide)
        obtain ⟨R9, q9⟩ := sum_ok (a := T ++ (⟨#[32, 100, 101, 102, 97, 117, 108, 116, 32]⟩ ++ La)) (b := ⟨#[32, 115, 110, 97, 112]⟩) (n := 5) q8 (Nat.le_refl 5) (by decide)
        have hV : Hid (T ++ (⟨#[32, 100, 101, 102, 97, 117, 108, 116, 32]⟩ ++ La) ++ ⟨#[32, 115, 110, 97, 112]⟩ = bs (fxWords x)) := by
          show _ = _
          rw [← HX.out ([]) ([32, 100, 101, 102, 97, 117, 108, 116, 32] ++ lvShow x.dflt) ([32, 115, 110, 97, 112]) (by unfold fxFine; rw [if_pos hf]) (by unfold fxDflt; rw [if_neg hd]) (by rw [hs]; rfl)]
          refine bs_eq ?_
          simp only [app_list, hT.out, HLa.out, bs_list, List.append_assoc, List.append_nil]
          try rfl
        clear hT HX hf hd
        rw [hs] at k5
        go_wp2_with (first
          | (go_at_call 29; (with_reducible refine (HSh.out _ B6.out).mono ?_); rintro e' w8 ⟨rfl, m8⟩; have B8 := Lib.hid (B6.out.trans m8); clear k0 k1 k2 k3 k4 k5 k6; obtain ⟨k0, k1, k2, k3, k4, k5, k6⟩ := HC.out _ B8.out; simp only [Nat.zero_add] at k1 k2 k3 k4 k5 k6; rw [hs] at k5))
        go_returns
        exact ⟨by rw [← hV.out]; rfl, bW.trans B8.out⟩
  · by_cases hd : x.dflt = 0
    · cases hs : x.snap with
      | false =>
        have hf' : (x.fine != 0) = true := by simpa using hf
        obtain ⟨R7, q7⟩ := sum_ok (a := T) (b := ⟨#[32, 102, 105, 110, 101, 32]⟩ ++ Fa) q4 q5 (by decide)
        have hd' : (x.dflt != 0) = false := by simpa using hd
        have hV : Hid (T ++ (⟨#[32, 102, 105, 110, 101, 32]⟩ ++ Fa) = bs (fxWords x)) := by
          show _ = _
          rw [← HX.out ([32, 102, 105, 110, 101, 32] ++ decDigits x.fine.toNat) ([]) ([]) (by unfold fxFine; rw [if_neg hf]) (by unfold fxDflt; rw [if_pos hd]) (by rw [hs]; rfl)]
          refine bs_eq ?_
          simp only [app_list, hT.out, HFa.out, bs_list, List.append_assoc, List.append_nil]
          try rfl
        clear hT HX hf hd
        rw [hs] at k5
        go_wp2_with (first
          | (go_at_call 27; (with_reducible refine (HI2.out _ B6.out).mono ?_); rintro e' w7 ⟨rfl, m7⟩; have B7 := Lib.hid (B6.out.trans m7); clear k0 k1 k2 k3 k4 k5 k6; obtain ⟨k0, k1, k2, k3, k4, k5, k6⟩ := HC.out _ B7.out; simp only [Nat.zero_add] at k1 k2 k3 k4 k5 k6; rw [hs] at k5))
        go_returns
        exact ⟨by rw [← hV.out]; rfl, bW.trans B7.out⟩
      | true =>
        have hf' : (x.fine != 0) = true := by simpa using hf
        obtain ⟨R7, q7⟩ := sum_ok (a := T) (b := ⟨#[32, 102, 105, 110, 101, 32]⟩ ++ Fa) q4 q5 (by decide)
        have hd' : (x.dflt != 0) = false := by simpa using hd
        obtain ⟨R9, q9⟩ := sum_ok (a := T ++ (⟨#[32, 102, 105, 110, 101, 32]⟩ ++ Fa)) (b := ⟨#[32, 115, 110, 97, 112]⟩) (n := 5) q7 (Nat.le_refl 5) (by decide)
        have hV : Hid (T ++ (⟨#[32, 102, 105, 110, 101, 32]⟩ ++ Fa) ++ ⟨#[32, 115, 110, 97, 112]⟩ = bs (fxWords x)) := by
          show _ = _
          rw [← HX.out ([32, 102, 105, 110, 101, 32] ++ decDigits x.fine.toNat) ([]) ([32, 115, 110, 97, 112]) (by unfold fxFine; rw [if_neg hf]) (by unfold fxDflt; rw [if_pos hd]) (by rw [hs]; rfl)]
          refine bs_eq ?_
          simp only [app_list, hT.out, HFa.out, bs_list, List.append_assoc, List.append_nil]
          try rfl
        clear hT HX hf hd
        rw [hs] at k5
        go_wp2_with (first
          | (go_at_call 27; (with_reducible refine (HI2.out _ B6.out).mono ?_); rintro e' w7 ⟨rfl, m7⟩; have B7 := Lib.hid (B6.out.trans m7); clear k0 k1 k2 k3 k4 k5 k6; obtain ⟨k0, k1, k2, k3, k4, k5, k6⟩ := HC.out _ B7.out; simp only [Nat.zero_add] at k1 k2 k3 k4 k5 k6; rw [hs] at k5))
        go_returns
        exact ⟨by rw [← hV.out]; rfl, bW.trans B7.out⟩
    · cases hs : x.snap with
      | false =>
        have hf' : (x.fine != 0) = true := by simpa using hf
        obtain ⟨R7, q7⟩ := sum_ok (a := T) (b := ⟨#[32, 102, 105, 110, 101, 32]⟩ ++ Fa) q4 q5 (by decide)
        have hd' : (x.dflt != 0) = true := by simpa using hd
        obtain ⟨R8, q8⟩ := sum_ok (a := T ++ (⟨#[32, 102, 105, 110, 101, 32]⟩ ++ Fa)) (b := ⟨#[32, 100, 101, 102, 97, 117, 108, 116, 32]⟩ ++ La) q7 q6 (by decide)
        have hV : Hid (T ++ (⟨#[32, 102, 105, 110, 101, 32]⟩ ++ Fa) ++ (⟨#[32, 100, 101, 102, 97, 117, 108, 116, 32]⟩ ++ La) = bs (fxWords x)) := by
          show _ = _
          rw [← HX.out ([32, 102, 105, 110, 101, 32] ++ decDigits x.fine.toNat) ([32, 100, 101, 102, 97, 117, 108, 116, 32] ++ lvShow x.dflt) ([]) (by unfold fxFine; rw [if_neg hf]) (by unfold fxDflt; rw [if_neg hd]) (by rw [hs]; rfl)]
          refine bs_eq ?_
          simp only [app_list, hT.out, HFa.out, HLa.out, bs_list, List.append_assoc, List.append_nil]
          try rfl
        clear hT HX hf hd
        rw [hs] at k5
        go_wp2_with (first
          | (go_at_call 27; (with_reducible refine (HI2.out _ B6.out).mono ?_); rintro e' w7 ⟨rfl, m7⟩; have B7 := Lib.hid (B6.out.trans m7); clear k0 k1 k2 k3 k4 k5 k6; obtain ⟨k0, k1, k2, k3, k4, k5, k6⟩ := HC.out _ B7.out; simp only [Nat.zero_add] at k1 k2 k3 k4 k5 k6; rw [hs] at k5)
          | (go_at_call 29; (with_reducible refine (HSh.out _ B7.out).mono ?_); rintro e' w8 ⟨rfl, m8⟩; have B8 := Lib.hid (B7.out.trans m8); clear k0 k1 k2 k3 k4 k5 k6; obtain ⟨k0, k1, k2, k3, k4, k5, k6⟩ := HC.out _ B8.out; simp only [Nat.zero_add] at k1 k2 k3 k4 k5 k6; rw [hs] at k5))
        go_returns
        exact ⟨by rw [← hV.out]; rfl, bW.trans B8.out⟩
      | true =>
        have hf' : (x.fine != 0) = true := by simpa using hf
        obtain ⟨R7, q7⟩ := sum_ok (a := T) (b := ⟨#[32, 102, 105, 110, 101, 32]⟩ ++ Fa) q4 q5 (by decide)
        have hd' : (x.dflt != 0) = true := by simpa using hd
        obtain ⟨R8, q8⟩ := sum_ok (a := T ++ (⟨#[32, 102, 105, 110, 101, 32]⟩ ++ Fa)) (b := ⟨#[32, 100, 101, 102, 97, 117, 108, 116, 32]⟩ ++ La) q7 q6 (by decide)
        obtain ⟨R9, q9⟩ := sum_ok (a := T ++ (⟨#[32, 102, 105, 110, 101, 32]⟩ ++ Fa) ++ (⟨#[32, 100, 101, 102, 97, 117, 108, 116, 32]⟩ ++ La)) (b := ⟨#[32, 115, 110, 97, 112]⟩) (n := 5) q8 (Nat.le_refl 5) (by decide)
        have hV : Hid (T ++ (⟨#[32, 102, 105, 110, 101, 32]⟩ ++ Fa) ++ (⟨#[32, 100, 101, 102, 97, 117, 108, 116, 32]⟩ ++ La) ++ ⟨#[32, 115, 110, 97, 112]⟩ = bs (fxWords x)) := by
          show _ = _
          rw [← HX.out ([32, 102, 105, 110, 101, 32] ++ decDigits x.fine.toNat) ([32, 100, 101, 102, 97, 117, 108, 116, 32] ++ lvShow x.dflt) ([32, 115, 110, 97, 112]) (by unfold fxFine; rw [if_neg hf]) (by unfold fxDflt; rw [if_neg hd]) (by rw [hs]; rfl)]
          refine bs_eq ?_
          simp only [app_list, hT.out, HFa.out, HLa.out, bs_list, List.append_assoc]
          try rfl
        clear hT HX hf hd
        rw [hs] at k5
        go_wp2_with (first
          | (go_at_call 27; (with_reducible refine (HI2.out _ B6.out).mono ?_); rintro e' w7 ⟨rfl, m7⟩; have B7 := Lib.hid (B6.out.trans m7); clear k0 k1 k2 k3 k4 k5 k6; obtain ⟨k0, k1, k2, k3, k4, k5, k6⟩ := HC.out _ B7.out; simp only [Nat.zero_add] at k1 k2 k3 k4 k5 k6; rw [hs] at k5)
          | (go_at_call 29; (with_reducible refine (HSh.out _ B7.out).mono ?_); rintro e' w8 ⟨rfl, m8⟩; have B8 := Lib.hid (B7.out.trans m8); clear k0 k1 k2 k3 k4 k5 k6; obtain ⟨k0, k1, k2, k3, k4, k5, k6⟩ := HC.out _ B8.out; simp only [Nat.zero_add] at k1 k2 k3 k4 k5 k6; rw [hs] at k5))
        go_returns
        exact ⟨by rw [← hV.out]; rfl, bW.trans B8.out⟩
end Go.Proofs.YtcidldomnifdeaaDoor
