/- LevelTurnsGoOn is proved: a fade that is turned goes on from where it was, for all fades, times, levels and curves; the listed variables are tied to the program's text by the card. -/
import Derived.Test.YtbmficaefnkepaaDoorCardKit
import Derived.Test.YtbmficaefnkepaaDoorTurnP
import Derived.Test.YtbmficaefnkepaaDoorOpen
namespace Go.Proofs.YtbmficaefnkepaaDoor.turngo
open Go.RowKit Go.ChangeShapes Go.WideShapes Go.ChangeAt Go.Lib

theorem turn_at {A uu t dl tm k : Int} {l : List (Int × Int)} (h : ckFade A uu t dl tm k l = 0) : atX A uu t dl tm k l t = 0 ∧ (dl + tm = 0 → atA A uu t dl tm k l t = uu) ∧ (dl + tm ≠ 0 → atA A uu t dl tm k l t = A) ∧ (0 ≤ dl ∧ dl ≤ 36000000 ∧ 0 ≤ tm ∧ tm ≤ 36000000) := by
  obtain ⟨hok, _⟩ := okFade_of h
  have s0 := hok.s0
  have s1 := hok.s1
  have d0 := hok.d0
  have d1 := hok.d1
  have m0 := hok.m0
  have m1 := hok.m1
  have ht : isTm t = true := isTm_iff.2 ⟨s0, s1⟩
  have h' : ¬ ckFade A uu t dl tm k l ≠ 0 := fun hh => hh h
  refine ⟨by unfold atX; rw [if_neg h', if_pos ht], fun e => ?_, fun e => ?_, d0, d1, m0, m1⟩
  · unfold atA fadeAt; rw [if_neg h', if_pos ht, if_pos (by omega)]
  · unfold atA fadeAt; rw [if_neg h', if_pos ht, if_neg (by omega), if_pos (by omega)]

set_option maxRecDepth 100000 in
set_option maxHeartbeats 3200000 in
theorem walk (F T S Dl Tm k : Int) (sv : Value) (l : List (Int × Int)) (t uu dl tm k2 : Int) (sv2 : Value) (l2 : List (Int × Int)) (m : Int) (w : World) (h : PtsAny w sv l) (h2 : PtsAny w sv2 l2)
    (ht : TabIs Tryd.prog w "internal/strconv.uint64pow10" .u64 pow10Tab) (hm : w.cell? ⟨1, 0, none⟩ = some (.int .i64 m)) :
    Calls Tryd.prog 4 #[.agg #[.int .i64 F, .int .i64 T, .int .i64 S, .int .i64 Dl, .int .i64 Tm, .int .i64 k, sv], .int .i64 t, .int .i64 uu, .int .i64 dl, .int .i64 tm, .agg #[.int .i64 k2, sv2]] w fun e w' => e = .returned (.bool true) ∧ Bl w w' := by
  have TT := Lib.hid (fun w' (g : Bl w w') => timesAreRead_ok m w' (tab_bl ht g) (g.cell hm))
  clear ht hm
  obtain ⟨o, ln, cap, rfl⟩ := h.form
  obtain ⟨o2, ln2, cap2, rfl⟩ := h2.form
  by_cases hx : tuX F T S Dl Tm k l t uu dl tm k2 l2 = 0
  · have A1 := Lib.hid (fun w' (g : Bl w w') => show Calls _ _ _ w' fun en w'' => ∃ sv, en = .returned (.tuple #[.agg #[.int .i64 (atA F T S Dl Tm k l t), .int .i64 uu, .int .i64 t, .int .i64 dl, .int .i64 tm, .int .i64 k2, sv], .int .i64 0]) ∧ PtsAny w'' sv l2 ∧ Bl w' w'' from
      (turn_prog F T S Dl Tm k _ l t uu dl tm k2 _ l2 w' (h.bl g) (h2.bl g)).mono fun _ _ hp => hp.1 hx)
    have hx1 : atX F T S Dl Tm k l t = 0 := by
      by_cases hh : atX F T S Dl Tm k l t = 0
      · exact hh
      · unfold tuX at hx; rw [if_pos hh] at hx; exact absurd hx hh
    have hx2 : ckFade (atA F T S Dl Tm k l t) uu t dl tm k2 l2 = 0 := by
      unfold tuX at hx; rw [if_neg (by rw [hx1]; decide)] at hx; exact hx
    obtain ⟨e1, e2, e3, d0, d1, m0, m1⟩ := turn_at hx2
    have A2 := fun w' (g : Bl w w') => at_any F T S Dl Tm k t l _ w' (h.bl g)
    have A3 := fun w' sv' (hp : PtsAny w' sv' l2) => at_any (atA F T S Dl Tm k l t) uu t dl tm k2 t l2 sv' w' hp
    rw [hx1] at A2
    rw [e1] at A3
    generalize atA (atA F T S Dl Tm k l t) uu t dl tm k2 l2 t = bb at *
    generalize atA F T S Dl Tm k l t = aa at *
    have hfin : Hid ((aa = bb) ∨ (aa ≠ bb ∧ dl + tm = 0 ∧ bb = uu)) := by
      by_cases hab : aa = bb
      · exact Or.inl hab
      · by_cases hd : dl + tm = 0
        · exact Or.inr ⟨hab, hd, e2 hd⟩
        · exact absurd (e3 hd).symm hab
    have A2 := Lib.hid A2
    have A3 := Lib.hid A3
    clear hx hx1 hx2 e1 e2 e3 h h2
    go_enter Tryd.func4, Tryd.ntmps4
    go_wp2_with fail
    obtain ⟨WA, hWA⟩ : ∃ WA, WA = w.alloc (.cells #[.int .i64 F, .int .i64 T, .int .i64 S, .int .i64 Dl, .int .i64 Tm, .int .i64 k, .slice o ln cap] 26) := ⟨_, rfl⟩
    rw [← hWA]
    have hbA : Bl w WA := by rw [hWA]; exact (Bl.refl w).alloc _
    have hsA : WA.heap.size = w.heap.size + 1 := by rw [hWA, World.size_alloc]
    obtain ⟨k0, k1, k2', k3, k4, k5, k6⟩ := own7b (W := w) (W' := WA) rfl (by rw [hWA]; exact Bl.refl _)
    obtain ⟨W1, hW1⟩ : ∃ W1, W1 = WA.alloc (.cells #[.int .i64 k2, .slice o2 ln2 cap2] 24) := ⟨_, rfl⟩
    rw [← hW1]
    have hb1 : Bl w W1 := by rw [hW1]; exact hbA.alloc _
    have hAB : Bl WA W1 := by rw [hW1]; exact (Bl.refl _).alloc _
    have hs1 : W1.heap.size = w.heap.size + 2 := by rw [hW1, World.size_alloc, hsA]
    replace k0 := hAB.cell k0
    replace k1 := hAB.cell k1
    replace k2' := hAB.cell k2'
    replace k3 := hAB.cell k3
    replace k4 := hAB.cell k4
    replace k5 := hAB.cell k5
    replace k6 := hAB.cell k6
    clear hW1 hWA hbA hAB hsA
    refine (A1.out _ hb1).mono ?_
    rintro e' w2 ⟨v1, rfl, hp1, g2⟩
    obtain ⟨o3, n3, c3, rfl⟩ := hp1.form
    have HP1 := Lib.hid hp1
    clear hp1
    replace k0 := g2.cell k0
    replace k1 := g2.cell k1
    replace k2' := g2.cell k2'
    replace k3 := g2.cell k3
    replace k4 := g2.cell k4
    replace k5 := g2.cell k5
    replace k6 := g2.cell k6
    have hb2 : Bl w w2 := hb1.trans g2
    have hz0 : w.heap.size < w2.heap.size := by have := g2.size; omega
    clear g2 hb1 hs1
    go_wp2_with fail
    refine (TT.out _ (hb2.alloc _)).mono ?_
    rintro e' w3 ⟨rfl, g3⟩
    obtain ⟨q0, q1, q2, q3, q4, q5, q6⟩ := own7b rfl g3
    have g23 : Bl w2 w3 := ((Bl.refl w2).alloc _).trans g3
    replace k0 := g23.cell k0
    replace k1 := g23.cell k1
    replace k2' := g23.cell k2'
    replace k3 := g23.cell k3
    replace k4 := g23.cell k4
    replace k5 := g23.cell k5
    replace k6 := g23.cell k6
    have HP3 := Lib.hid (HP1.out.bl g23)
    have hb3 : Bl w w3 := hb2.trans g23
    clear g3 g23
    go_wp2_with fail
    refine (A2.out _ hb3).mono ?_
    rintro e' w4 ⟨rfl, g4'⟩
    have g4 := g4'.bl
    clear g4' k0 k1 k2' k3 k4 k5 k6
    replace q0 := g4.cell q0
    replace q1 := g4.cell q1
    replace q2 := g4.cell q2
    replace q3 := g4.cell q3
    replace q4 := g4.cell q4
    replace q5 := g4.cell q5
    replace q6 := g4.cell q6
    have HP4 := Lib.hid (HP3.out.bl g4)
    have hb4 : Bl w w4 := hb3.trans g4
    clear g4
    go_wp2_with fail
    refine (A3.out _ _ HP4.out).mono ?_
    rintro e' w5 ⟨rfl, g5⟩
    have hb5 : Bl w w5 := hb4.trans g5.bl
    clear g5 q0 q1 q2 q3 q4 q5 q6
    rcases hfin.out with hab | ⟨hab, hd, hu⟩
    · subst hab
      go_wp2_with fail
      go_returns
      exact ⟨by first | rfl | exact ret_bool (by simp), hb5⟩
    · subst hu
      have habb : (aa == bb) = false := beq_eq_false_iff_ne.2 hab
      have hdb : (dl + tm == 0) = true := beq_iff_eq.2 hd
      clear hab hfin
      go_wp2_with fail
      go_returns
      exact ⟨by first | rfl | exact ret_bool (by simp), hb5⟩
  · have A1 := Lib.hid (fun w' (g : Bl w w') => show Calls _ _ _ w' fun en w'' => ∃ sv, en = .returned (.tuple #[.agg #[.int .i64 0, .int .i64 0, .int .i64 0, .int .i64 0, .int .i64 0, .int .i64 0, sv], .int .i64 (tuX F T S Dl Tm k l t uu dl tm k2 l2)]) ∧ PtsAny w'' sv [] ∧ Bl w' w'' from
      (turn_prog F T S Dl Tm k _ l t uu dl tm k2 _ l2 w' (h.bl g) (h2.bl g)).mono fun _ _ hp => hp.2 hx)
    generalize tuX F T S Dl Tm k l t uu dl tm k2 l2 = xx at *
    have hxb : (xx != 0) = true := by simpa using hx
    clear h h2 hx
    go_enter Tryd.func4, Tryd.ntmps4
    go_wp2_with fail
    refine (A1.out _ (((Bl.refl w).alloc _).alloc _)).mono ?_
    rintro e' w2 ⟨v1, rfl, hp1, g2⟩
    obtain ⟨o3, n3, c3, rfl⟩ := hp1.form
    clear hp1
    have hb2 : Bl w w2 := (((Bl.refl w).alloc _).alloc _).trans g2
    clear g2
    go_wp2_with fail
    refine (TT.out _ (hb2.alloc _)).mono ?_
    rintro e' w3 ⟨rfl, g3⟩
    obtain ⟨q0, q1, q2, q3, q4, q5, q6⟩ := own7b rfl g3
    have hb3 : Bl w w3 := (hb2.alloc _).trans g3
    go_wp2_with fail
    go_returns
    exact ⟨by first | rfl | exact ret_bool (by simp), hb3⟩
theorem own : ownKnob Tryd.prog.godebug = none := by kernel_rfl
theorem laid : laidOutB Tryd.prog = true := by kernel_rfl

set_option maxRecDepth 100000 in
theorem lifted (os : Os) (started : os.Started) (H : Type) (enc : TypeId × Value → H) :
    ReturnsInHanded {} Tryd.checked os 4 .any (fun w args => (Rows.levelTurnsGoOnSpec.pre enc Tryd.prog Tryd.f4 Rows.levelTurnsGoOnRow.domain false w args ∧ laidMetH Tryd.prog Rows.levelTurnsGoOnRow.laid w) ∧ sizedMet enc Tryd.prog Tryd.f4 (OpenSpec.ofChange Rows.levelTurnsGoOnSpec) false w args) (Rows.levelTurnsGoOnSpec.post enc Tryd.prog Tryd.f4 false true false false) := by
  refine lift_tied (C := Tryd.checked) (X := fun w _ => laidMetH Tryd.prog Rows.levelTurnsGoOnRow.laid w) (fun _ _ _ hh h => h.of_heap hh) own started (by kernel_rfl) Tryd.func4
    (ChangeSpec.witness_shaped (enc := enc) (C := Tryd.checked) (os := os) (X := fun w _ => laidMetH Tryd.prog Rows.levelTurnsGoOnRow.laid w) false (World.laidAll Tryd.prog os Rows.levelTurnsGoOnRow.laid) #[.agg #[.int .i64 0, .int .i64 0, .int .i64 0, .int .i64 0, .int .i64 0, .int .i64 0, .slice none 0 0], .int .i64 0, .int .i64 0, .int .i64 0, .int .i64 0, .agg #[.int .i64 0, .slice none 0 0]] 8 (World.laidAll_os _ _ _)
      (World.shaped_of_ZipB (by kernel_rfl) (by kernel_rfl)) (by kernel_rfl) (by kernel_rfl) (by kernel_rfl)
      (by rw [MakeChecks.laidMetH_plain _ _ _ (by kernel_rfl)]; exact laidMet_laidAll _ (by kernel_rfl) (by kernel_rfl))) ?_
  intro W base args ds gs before hval0 hW hsz0 hL0 hsh
  obtain ⟨mx, hmx⟩ := maxLen_cell hsh
  have hL : laidMetH Tryd.prog Rows.levelTurnsGoOnRow.laid W := hL0
  rw [MakeChecks.laidMetH_plain _ _ _ (by kernel_rfl)] at hL
  have htab := pow_tab hL.tail.tail
  have hval : ∀ (j : Nat) t v, Tryd.f4.params[j]? = some t → args[j]? = some v → Value.okWide Tryd.prog W .any base t v := hval0
  have hW' := hW
  obtain ⟨p, q, hA0, hV, rfl, hfz, hnd⟩ := hW
  have hA : DataW.TrodAll enc Tryd.prog W 0 (fun _ => true) true Tryd.f4.params.toList args.toList ds p := hA0
  rw [Tryd.params4] at hA hval
  obtain ⟨v0, vs0, d0, ds0, p0, q0, hargs, rfl, rfl, h0, r0⟩ := trodAll_cons hA
  obtain ⟨v1, vs1, d1, ds1, p1, q1, rfl, rfl, rfl, h1, r1⟩ := trodAll_cons r0
  obtain ⟨v2, vs2, d2, ds2, p2, q2, rfl, rfl, rfl, h2, r2⟩ := trodAll_cons r1
  obtain ⟨v3, vs3, d3, ds3, p3, q3, rfl, rfl, rfl, h3, r3⟩ := trodAll_cons r2
  obtain ⟨v4, vs4, d4, ds4, p4, q4, rfl, rfl, rfl, h4, r4⟩ := trodAll_cons r3
  obtain ⟨v5, vs5, d5, ds5, p5, q5, rfl, rfl, rfl, h5, r5⟩ := trodAll_cons r4
  obtain ⟨rfl, rfl, rfl⟩ := trodAll_nil r5
  obtain rfl : args = #[v0, v1, v2, v3, v4, v5] := by cases args; simp_all
  obtain ⟨rfl, rfl⟩ := trodVars_none hV
  obtain ⟨F0, T0, S0, Dl0, Tm0, k0, sv0, l0, rfl, wf0, hp0, wp0⟩ := open_fade (hval 0 26 v0 rfl rfl) h0
  obtain ⟨a1, rfl, rfl, rfl, w1⟩ := open_int Tryd.underlying3 (hval 1 3 v1 rfl rfl) h1
  obtain ⟨a2, rfl, rfl, rfl, w2⟩ := open_int Tryd.underlying3 (hval 2 3 v2 rfl rfl) h2
  obtain ⟨a3, rfl, rfl, rfl, w3⟩ := open_int Tryd.underlying3 (hval 3 3 v3 rfl rfl) h3
  obtain ⟨a4, rfl, rfl, rfl, w4⟩ := open_int Tryd.underlying3 (hval 4 3 v4 rfl rfl) h4
  obtain ⟨k5, sv5, l5, rfl, wk5, hp5, wp5⟩ := open_curve (hval 5 24 v5 rfl rfl) h5
  clear hA0 hval0
  refine (walk F0 T0 S0 Dl0 Tm0 k0 sv0 l0 a1 a2 a3 a4 k5 sv5 l5 mx W hp0 hp5 htab hmx).mono fun e W' ⟨he, hg⟩ => ?_
  subst he
  exact ⟨_, rfl, law_old hW' rfl rfl (by kernel_rfl) Tryd.underlying4 laid (by kernel_rfl) hg⟩

theorem over : Rows.levelTurnsGoOnRow.holds Tryd.pinned (OpenSpec.ofChange Rows.levelTurnsGoOnSpec) :=
  OpenClaim.holds_of_wide 4 Tryd.f4 rfl rfl rfl rfl rfl rfl rfl ⟨rfl, rfl, rfl, rfl, rfl⟩ rfl rfl rfl rfl rfl (by kernel_rfl) Tryd.func4 (by kernel_rfl)
    (of_decide_eq_true (by kernel_rfl)) (by unfold Func.isWrapper; first | (rw [if_pos (by decide +kernel)]; kernel_rfl) | (rw [if_neg (by decide +kernel)]; exact ⟨rfl, rfl⟩))
    (fun os started H enc _ => lifted os started H enc)

/-- The card: the statement. -/
theorem proved : Rows.LevelTurnsGoOnCardSaid :=
  Claim7.holds_tied_plain_at .later [] [.data, .data, .data, .data, .pinned] true (true, "1f91369b4277850ac435016c33ac9a14cfbdf2f2d8793a4d57e7df0abb5da321") false over (fun _ h => by cases h) (by kernel_rfl) (fun _ h => by cases h) levelTurnsGoOn_row_tie rfl ⟨rfl, rfl⟩ (by kernel_rfl) rfl
    (fun f fn hf hfn => by
      obtain rfl : f = 4 := Option.some.inj ((show Tryd.prog.funcNamed "cyclorama/cycloramalaw1.LevelTurnsGoOn" = some 4 by kernel_rfl).symm.trans hf) |>.symm
      obtain rfl : fn = Tryd.f4 := (Option.some.inj (Tryd.func4.symm.trans hfn)).symm
      exact ⟨by kernel_rfl, fun j t ht => by
        rw [Tryd.params4] at ht
        have hm := Array.mem_of_getElem? ht
        have hall : ((#[26, 3, 3, 3, 3, 24] : Array TypeId).toList.all fun u => !Tryd.prog.wantsStandIn u) = true := by kernel_rfl
        exact (show Tryd.prog.wantsStandIn t = false by simpa using List.all_eq_true.1 hall t (by simpa using hm))⟩)
    (by kernel_rfl)
end Go.Proofs.YtbmficaefnkepaaDoor.turngo

