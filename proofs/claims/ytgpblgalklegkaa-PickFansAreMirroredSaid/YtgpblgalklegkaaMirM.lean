/- PickFansAreMirrored is proved: with two wings of one size the levels read the same from both ends, for all fans and numbers of units, with no condition. -/
import Derived.Test.YtgpblgalklegkaaFanL
import Derived.Test.YtgpblgalklegkaaRev
import Derived.Test.YtgpblgalklegkaaEqIn
import Derived.Test.YtgpblgalklegkaaOpenF
namespace Go.Proofs.Ytgpblgalklegkaa.mirrored
open Go.ChangeShapes Go.WideShapes Go.ChangeAt Go.RowKit

/-- The levels of a right fan are as many as the units. -/
theorem lv_len {l : List Int} {B Wn n : Int} (h : lvX l B Wn n = 0) : (fanX l B Wn = 0 ∧ 0 ≤ n ∧ n ≤ 400) ∧ lvR l B Wn n = fanL l B Wn n := by
  have h2 := h
  unfold lvX at h
  by_cases hf : fanX l B Wn = 0
  · rw [if_neg (fun x => x hf)] at h
    by_cases hn : 0 ≤ n ∧ n ≤ 400
    · exact ⟨⟨hf, hn⟩, by unfold lvR; rw [if_pos h2]⟩
    · rw [if_neg hn] at h; cases h
  · rw [if_pos hf] at h; exact absurd h hf

set_option maxRecDepth 100000 in
set_option maxHeartbeats 3200000 in
theorem walk (sv : Value) (l : List Int) (B Wn n : Int) (w : World) (hv : Slc w sv l) :
    Calls Try.prog 4 #[.agg #[sv, .int .i64 B, .int .i64 Wn], .int .i64 n] w fun e w' => e = .returned (.bool true) ∧ Bl w w' := by
  have h1 := Lib.hid (fun w' (m : Bl w w') => levels_prog sv l B 2 n w' (hv.bl m))
  unfold PLv at h1
  obtain ⟨o, c, rfl, _⟩ := hv
  obtain ⟨W0, hW0⟩ : ∃ W0, W0 = w.alloc (.cells #[.slice o l.length c, .int .i64 B, .int .i64 2] 24) := ⟨_, rfl⟩
  have bW : Bl w W0 := by rw [hW0]; exact (Bl.refl w).alloc _
  have KK := Lib.hid (fun w' (m : Bl W0 w') => show w'.cell? ⟨w.heap.size, 1, none⟩ = some (.int .i64 B) from m.cell (by rw [hW0]; simp))
  by_cases hX : lvX l B 2 n = 0
  · obtain ⟨⟨hf, hn0, hn4⟩, hR⟩ := lv_len hX
    obtain ⟨_, ⟨hB1, hB2⟩, _, _⟩ := fan_good hf
    obtain ⟨N, rfl⟩ : ∃ N : Nat, n = N := ⟨n.toNat, by omega⟩
    have hlen : (fanL l B 2 (N : Int)).length = N := by rw [fanL_len]; exact Int.toNat_natCast N
    rw [hX, hR] at h1
    have r0 := Int.emod_nonneg (N : Int) (show 2 * B ≠ 0 by omega)
    have r1 := Int.emod_lt_of_pos (N : Int) (show 0 < 2 * B by omega)
    have HBK := Lib.hid (fun hm => fanL_back (l := l) (B := B) (n := (N : Int)) hB1 hm)
    obtain ⟨r, hr⟩ : ∃ r, (N : Int) % (2 * B) = r := ⟨_, rfl⟩
    rw [hr] at r0 r1
    have zt : ((N : Int)).tmod (2 * B) = r := by rw [IntWalk.rem_in _ _ hn0, hr]
    have zw : IntKind.i64.wrap r = r := IntWalk.i64_in _ (by omega)
    have zn : ¬ (2 * B = 0) := by omega
    have znb : (2 * B == 0) = false := beq_eq_false_iff_ne.2 zn
    have zm : IntKind.i64.wrap (2 * B) = 2 * B := IntWalk.i64_in _ (by omega)
    rw [hr] at HBK
    clear hX hR hf hr
    obtain ⟨F, hF⟩ : ∃ F, fanL l B 2 (N : Int) = F := ⟨_, rfl⟩
    rw [hF] at h1 hlen HBK
    clear hF
    subst hlen
    go_enter Try.func4, Try.ntmps4
    go_wp2_with fail
    rw [← hW0]
    clear hW0
    refine (h1.out _ bW).mono ?_
    rintro e w1 ⟨v, rfl, hs, m1⟩
    have HS := Lib.hid hs
    have k1 := KK.out _ m1
    by_cases hr0 : r = 0
    · have t1 : (r != 0) = false := by simpa using hr0
      have HBK := Lib.hid (HBK.out hr0)
      subst hr0
      by_cases hN : F.length = 0
      · obtain ⟨o2, c2, rfl, _, _⟩ := hs
        obtain rfl : F = [] := List.eq_nil_of_length_eq_zero hN
        have HC := Lib.hid (fun w' => clone_none o2 c2 w')
        clear HS
        go_wp2_with fail
        refine (HC.out _).mono ?_
        rintro e w2 ⟨o3, c3, rfl, m2⟩
        go_wp2_with fail
        refine (reverse_none _ _ _).mono ?_
        rintro e w3 ⟨rfl, rfl⟩
        go_wp2_with fail
        refine (equal_none _ _ _ _ _).mono ?_
        rintro e w4 ⟨rfl, rfl⟩
        go_wp2_with fail
        go_returns
        exact ⟨rfl, bW.trans (m1.trans m2)⟩
      · obtain ⟨o2, c2, rfl, ⟨hc1, hc2⟩, hcell⟩ := hs
        obtain ⟨b2, off2, rfl, _⟩ := hcell 0 (by omega)
        have HC := Lib.hid (clone_ints b2 off2 c2 F w1 (fun i hi => by
          obtain ⟨b', off', e', hc⟩ := hcell i hi
          cases e'
          exact hc) (by omega) (by omega))
        clear hcell
        have t2 : ((F.length : Int) == (F.length : Int)) = true := by simp
        go_wp2_with fail
        refine HC.out.mono ?_
        rintro e w2 ⟨g, cap9, rfl, hown, m2⟩
        have HO := Lib.hid hown
        clear hown
        go_wp2_with fail
        refine (reverse_ints w1 w2 g cap9 F HO.out (by omega) m2).mono ?_
        rintro e w3 ⟨rfl, hown, m3⟩
        rw [HBK.out] at hown
        have HO3 := Lib.hid hown
        clear hown
        go_wp2_with fail
        refine (equal_ints _ _ F _ (HS.out.bl m3) HO3.out.slc).mono ?_
        rintro e w4 ⟨rfl, m4⟩
        go_wp2_with fail
        go_returns
        exact ⟨rfl, (bW.trans (m1.trans m3)).trans m4⟩
        trivial
    · have t1 : (r != 0) = true := by simpa using hr0
      obtain ⟨o2, c2, rfl, _, _⟩ := hs
      have t2 : ((F.length : Int) == (F.length : Int)) = true := by simp
      clear HS
      go_wp2_with fail
      go_returns
      exact ⟨rfl, bW.trans m1⟩
  · have hR : lvR l B 2 n = [] := by unfold lvR; rw [if_neg hX]
    have t1 : (lvX l B 2 n != 0) = true := by simpa using hX
    rw [hR] at h1
    generalize lvX l B 2 n = X at *
    clear hX hR
    go_enter Try.func4, Try.ntmps4
    go_wp2_with fail
    rw [← hW0]
    clear hW0
    refine (h1.out _ bW).mono ?_
    rintro e w1 ⟨v, rfl, ⟨o2, c2, rfl, _, _⟩, m1⟩
    have k1 := KK.out _ m1
    go_wp2_with fail
    go_returns
    exact ⟨rfl, bW.trans m1⟩

theorem own : ownKnob Try.prog.godebug = none := by kernel_rfl
theorem laid : laidOutB Try.prog = true := by kernel_rfl

set_option maxRecDepth 100000 in
theorem lifted (os : Os) (started : os.Started) (H : Type) (enc : TypeId × Value → H) :
    ReturnsInHanded {} Try.checked os 4 .any (Rows.pickFansAreMirroredSpec.pre6 enc Try.prog Try.f4 Rows.pickFansAreMirroredRow.domain false) (Rows.pickFansAreMirroredSpec.post enc Try.prog Try.f4 false true false false) := by
  refine returnsInHanded_of_change (C := Try.checked) own started (by kernel_rfl) Try.func4
    (ChangeSpec.witness6 (enc := enc) (C := Try.checked) false ⟨#[], #[.agg #[.slice none 0 0, .int .i64 0, .int .i64 0], .int .i64 0], []⟩ 8 (by kernel_rfl) (by kernel_rfl) (by kernel_rfl) (by kernel_rfl)) ?_
  intro W base args ds gs before hval0 hW hcnd _
  have hval : ∀ (j : Nat) t v, Try.f4.params[j]? = some t → args[j]? = some v → Value.okWide Try.prog W .any base t v := hval0
  have hW' := hW
  obtain ⟨p, q, hA0, hV, rfl, hfz, hnd⟩ := hW
  have hA : DataW.TrodAll enc Try.prog W 0 (fun _ => true) true Try.f4.params.toList args.toList ds p := hA0
  rw [Try.params4] at hA hval
  obtain ⟨v0, vs0, d0, ds0, p0, q0, hargs, rfl, rfl, h0, r0⟩ := trodAll_cons hA
  obtain ⟨v1, vs1, d1, ds1, p1, q1, rfl, rfl, rfl, h1, r1⟩ := trodAll_cons r0
  obtain ⟨rfl, rfl, rfl⟩ := trodAll_nil r1
  obtain rfl : args = #[v0, v1] := by cases args; simp_all
  obtain ⟨rfl, rfl⟩ := trodVars_none hV
  obtain ⟨sv0, B0, W0, xs0, rfl, hx0⟩ := open_fan (hval 0 24 v0 rfl rfl) h0
  obtain ⟨a1, rfl, rfl, rfl, w1⟩ := open_int Try.underlying3 (hval 1 3 v1 rfl rfl) h1
  clear hA0 hval0
  refine (walk sv0 xs0 B0 W0 a1 W hx0).mono fun e W' ⟨he, hg⟩ => ?_
  subst he
  exact ⟨_, rfl, law_old hW' rfl rfl (by kernel_rfl) Try.underlying4 laid (by kernel_rfl) hg⟩

theorem over : Rows.pickFansAreMirroredRow.holds Try.pinned (OpenSpec.ofChange Rows.pickFansAreMirroredSpec) :=
  OpenClaim.holds_of_wide 4 Try.f4 rfl rfl rfl rfl rfl rfl rfl ⟨rfl, rfl, rfl, rfl, rfl⟩ rfl rfl rfl rfl rfl (by kernel_rfl) Try.func4 (by kernel_rfl)
    (of_decide_eq_true (by kernel_rfl)) (by unfold Func.isWrapper; first | (rw [if_pos (by decide +kernel)]; kernel_rfl) | (rw [if_neg (by decide +kernel)]; exact ⟨rfl, rfl⟩))
    (fun os started H enc _ => lifted os started H enc)

/-- The statement. -/
theorem proved : Rows.PickFansAreMirroredSaid :=
  over
end Go.Proofs.Ytgpblgalklegkaa.mirrored

