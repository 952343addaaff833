/- LevelReachIsFirst is proved: a level is reached when Reach says so, and not a millisecond earlier, for all fades and levels; the listed variables are tied to the program's text by the card. -/
import Derived.Test.YtfeeolfekfkdiaaDoorCardKit
import Derived.Test.YtfeeolfekfkdiaaDoorReachP
import Derived.Test.YtfeeolfekfkdiaaDoorChM2
import Derived.Test.YtfeeolfekfkdiaaDoorBox
import Derived.Test.YtfeeolfekfkdiaaDoorOpen
namespace Go.Proofs.YtfeeolfekfkdiaaDoor.reachfirst
open Go.RowKit Go.ChangeShapes Go.WideShapes Go.ChangeAt Go.Lib

theorem fst_at {p : Int → Bool} {lo hi : Int} (hm : ∀ s t, lo ≤ s → s ≤ t → p s = true → p t = true) (h : lo ≤ hi) (hh : p hi = true) : p (fstP p lo hi) = true ∧ ∀ z, lo ≤ z → z < fstP p lo hi → p z = false := by
  obtain ⟨x, a, b, c, d⟩ := fst_ex p lo (hi - lo).toNat hi (by omega) hh
  rw [fst_eq (p := p) (lo := lo) (hi := hi) (x := x) a b d (fun z h4 _ => hm x z a h4 c)]
  exact ⟨c, d⟩

set_option maxHeartbeats 800000 in
theorem beyond_fn (bf bn : Nat) (F T n a : Int) (w : World) (c0 : w.cell? ⟨bf, 0, none⟩ = some (.int .i64 F)) (c1 : w.cell? ⟨bf, 1, none⟩ = some (.int .i64 T)) (cn : w.cell? ⟨bn, 0, none⟩ = some (.int .i64 n)) :
    Calls Tryd.prog 12 (#[.int .i64 a] ++ #[.pointer (some ⟨bf, 0, none⟩), .pointer (some ⟨bn, 0, none⟩)]) w fun e w' => e = .returned (.bool (rchB F T n a)) ∧ w = w' := by
  by_cases h1 : F < T
  · have e : Hid (rchB F T n a = decide (n ≤ a)) := if_pos h1
    have hb : (F == T) = false := beq_eq_false_iff_ne.2 (by omega)
    go_enter Tryd.func12, Tryd.ntmps12
    by_cases h2 : n ≤ a
    · go_wp2
      go_returns
      exact ⟨ret_bool (by rw [e.out]; simp [h2]), rfl⟩
    · go_wp2
      go_returns
      exact ⟨ret_bool (by rw [e.out]; simp [h2]), rfl⟩
  · by_cases h2 : T < F
    · have e : Hid (rchB F T n a = decide (a ≤ n)) := by show _ = _; unfold rchB; rw [if_neg h1, if_pos h2]
      have hb : (F == T) = false := beq_eq_false_iff_ne.2 (by omega)
      go_enter Tryd.func12, Tryd.ntmps12
      go_wp2
      go_returns
      exact ⟨ret_bool (by rw [e.out]), rfl⟩
    · obtain rfl : F = T := by omega
      have e : Hid (rchB F F n a = decide (a = n)) := by show _ = _; unfold rchB; rw [if_neg h1, if_neg h2]
      go_enter Tryd.func12, Tryd.ntmps12
      go_wp2
      go_returns
      exact ⟨ret_bool (by rw [e.out]; rfl), rfl⟩

theorem at_in {F T S Dl Tm k t : Int} {l : List (Int × Int)} (hc : ckFade F T S Dl Tm k l = 0) (t0 : 0 ≤ t) (t1 : t ≤ 36000000) : atA F T S Dl Tm k l t = fadeAt F T S Dl Tm k l t ∧ atX F T S Dl Tm k l t = 0 := by
  have h' : ¬ ckFade F T S Dl Tm k l ≠ 0 := fun hh => hh hc
  have ht : isTm t = true := isTm_iff.2 ⟨t0, t1⟩
  unfold atA atX
  rw [if_neg h', if_neg h', if_pos ht, if_pos ht]
  exact ⟨rfl, rfl⟩

set_option maxRecDepth 100000 in
set_option maxHeartbeats 3200000 in
theorem walk (F T S Dl Tm k : Int) (sv : Value) (l : List (Int × Int)) (n : Int) (m : Int) (w : World) (h : PtsAny w sv l)
    (ht : TabIs Tryd.prog w "internal/strconv.uint64pow10" .u64 pow10Tab) (hm : w.cell? ⟨0, 0, none⟩ = some (.int .i64 m)) :
    Calls Tryd.prog 3 #[.agg #[.int .i64 F, .int .i64 T, .int .i64 S, .int .i64 Dl, .int .i64 Tm, .int .i64 k, sv], .int .i64 n] w fun e w' => e = .returned (.bool true) ∧ Bl w w' := by
  have TT := Lib.hid (fun w' (g : Bl w w') => timesAreRead_ok m w' (tab_bl ht g) (g.cell hm))
  clear ht hm
  have A1 := fun w' (g : Bl w w') => reach_prog F T S Dl Tm k n sv l w' (h.bl g)
  obtain ⟨o, ln, cap, hsv⟩ := h.form
  by_cases hyes : ckFade F T S Dl Tm k l = 0 ∧ isLev n = true ∧ rchB F T n T = true
  · obtain ⟨hc, h2, h3⟩ := hyes
    obtain ⟨r1, r2, r3⟩ := re_yes hc h2 h3
    obtain ⟨hok, _⟩ := okFade_of hc
    have s0 := hok.s0
    have d0 := hok.d0
    have m0 := hok.m0
    have e1 := hok.e1
    have hfst := fst_at (p := fun t => rchB F T n (fadeAt F T S Dl Tm k l t)) (lo := S) (hi := S + Dl + Tm) (fun s t _ hst hs => rchB_mono hok hst hs) (by omega) (by show rchB F T n (fadeAt F T S Dl Tm k l (S + Dl + Tm)) = true; rw [fade_end]; exact h3)
    have hbd := fst_bd (p := fun t => rchB F T n (fadeAt F T S Dl Tm k l t)) (lo := S) (hi := S + Dl + Tm) (by omega)
    rw [r1, r2, r3] at A1
    generalize fstP (fun t => rchB F T n (fadeAt F T S Dl Tm k l t)) S (S + Dl + Tm) = x at *
    obtain ⟨x0, x1⟩ := hbd
    obtain ⟨p1, p2⟩ := hfst
    have A2 := fun w' (g : Bl w w') => at_any F T S Dl Tm k x l sv w' (h.bl g)
    rw [(at_in hc (t := x) (by omega) (by omega)).1, (at_in hc (t := x) (by omega) (by omega)).2] at A2
    have eg : ∀ args w', (callFunc 12 args).run Tryd.prog w' = .ok (.enter 12 args) w' := enters_of Tryd.func12 (by kernel_rfl) rfl
    have HB1 := Lib.hid (fun bf bn w' (c0 : w'.cell? ⟨bf, 0, none⟩ = some (.int .i64 F)) (c1 : w'.cell? ⟨bf, 1, none⟩ = some (.int .i64 T)) (cn : w'.cell? ⟨bn, 0, none⟩ = some (.int .i64 n)) => show Calls _ _ _ w' fun e w'' => e = .returned (.bool true) ∧ w' = w'' from by
      have := beyond_fn bf bn F T n (fadeAt F T S Dl Tm k l x) w' c0 c1 cn
      rwa [p1] at this)
    by_cases hxS : x = S
    · have A1 := Lib.hid A1
      have A2 := Lib.hid A2
      clear h hc h2 h3 r1 r2 r3 p1 p2 hok
      subst hsv
      generalize fadeAt F T S Dl Tm k l x = a1 at *
      subst hxS
      go_enter Tryd.func3, Tryd.ntmps3
      go_wp2_with fail
      obtain ⟨WA, hWA⟩ : ∃ WA, WA = w.alloc (.cells #[.int .i64 F, .int .i64 T, .int .i64 x, .int .i64 Dl, .int .i64 Tm, .int .i64 k, .slice o ln cap] 26) := ⟨_, rfl⟩
      rw [← hWA]
      have hbA : Bl w WA := by rw [hWA]; exact (Bl.refl w).alloc _
      have hsA : WA.heap.size = w.heap.size + 1 := by rw [hWA, World.size_alloc]
      obtain ⟨k0, k1, k2, k3, k4, k5, k6⟩ := own7b (W := w) (W' := WA) rfl (by rw [hWA]; exact Bl.refl _)
      obtain ⟨W1, hW1⟩ : ∃ W1, W1 = WA.alloc (.cells #[.int .i64 n] 3) := ⟨_, rfl⟩
      rw [← hW1]
      have hb1 : Bl w W1 := by rw [hW1]; exact hbA.alloc _
      have hAB : Bl WA W1 := by rw [hW1]; exact (Bl.refl _).alloc _
      have kn : W1.cell? ⟨w.heap.size + 1, 0, none⟩ = some (.int .i64 n) := by rw [hW1, ← hsA]; simp
      replace k0 := hAB.cell k0
      replace k1 := hAB.cell k1
      replace k2 := hAB.cell k2
      replace k3 := hAB.cell k3
      replace k4 := hAB.cell k4
      replace k5 := hAB.cell k5
      replace k6 := hAB.cell k6
      clear hW1 hWA hbA hAB hsA
      refine (A1.out _ hb1).mono ?_
      rintro e w2 ⟨rfl, g2'⟩
      have g2 := g2'.bl
      clear g2'
      replace k0 := g2.cell k0
      replace k1 := g2.cell k1
      replace k2 := g2.cell k2
      replace k3 := g2.cell k3
      replace k4 := g2.cell k4
      replace k5 := g2.cell k5
      replace k6 := g2.cell k6
      replace kn := g2.cell kn
      have hb2 : Bl w w2 := hb1.trans g2
      clear g2 hb1
      go_wp2_with fail
      refine (TT.out _ hb2).mono ?_
      rintro e w3 ⟨rfl, g3⟩
      replace k0 := g3.cell k0
      replace k1 := g3.cell k1
      replace k2 := g3.cell k2
      replace k3 := g3.cell k3
      replace k4 := g3.cell k4
      replace k5 := g3.cell k5
      replace k6 := g3.cell k6
      replace kn := g3.cell kn
      have hb3 : Bl w w3 := hb2.trans g3
      clear g3 hb2
      go_wp2_with fail
      refine (A2.out _ hb3).mono ?_
      rintro e w4 ⟨rfl, g4'⟩
      have g4 := g4'.bl
      clear g4'
      replace k0 := g4.cell k0
      replace k1 := g4.cell k1
      replace k2 := g4.cell k2
      replace k3 := g4.cell k3
      replace k4 := g4.cell k4
      replace k5 := g4.cell k5
      replace k6 := g4.cell k6
      replace kn := g4.cell kn
      have hb4 : Bl w w4 := hb3.trans g4
      clear g4 hb3
      go_wp2_with fail
      refine (HB1.out _ _ _ k0 k1 kn).mono ?_
      rintro e w5 ⟨rfl, rfl⟩
      go_wp2_with fail
      go_returns
      exact ⟨by first | rfl | exact ret_bool (by simp), hb4⟩
    · have A3 := fun w' (g : Bl w w') => at_any F T S Dl Tm k (x - 1) l sv w' (h.bl g)
      rw [(at_in hc (t := x - 1) (by omega) (by omega)).1, (at_in hc (t := x - 1) (by omega) (by omega)).2] at A3
      have HB2 := Lib.hid (fun bf bn w' (c0 : w'.cell? ⟨bf, 0, none⟩ = some (.int .i64 F)) (c1 : w'.cell? ⟨bf, 1, none⟩ = some (.int .i64 T)) (cn : w'.cell? ⟨bn, 0, none⟩ = some (.int .i64 n)) => show Calls _ _ _ w' fun e w'' => e = .returned (.bool false) ∧ w' = w'' from by
        have := beyond_fn bf bn F T n (fadeAt F T S Dl Tm k l (x - 1)) w' c0 c1 cn
        rwa [show rchB F T n (fadeAt F T S Dl Tm k l (x - 1)) = false from p2 (x - 1) (by omega) (by omega)] at this)
      have A1 := Lib.hid A1
      have A2 := Lib.hid A2
      have A3 := Lib.hid A3
      have hxb : (x == S) = false := beq_eq_false_iff_ne.2 hxS
      clear h hc h2 h3 r1 r2 r3 p1 p2 hok
      subst hsv
      generalize fadeAt F T S Dl Tm k l x = a1 at *
      generalize fadeAt F T S Dl Tm k l (x - 1) = a2 at *
      go_enter Tryd.func3, Tryd.ntmps3
      go_wp2_with fail
      obtain ⟨WA, hWA⟩ : ∃ WA, WA = w.alloc (.cells #[.int .i64 F, .int .i64 T, .int .i64 S, .int .i64 Dl, .int .i64 Tm, .int .i64 k, .slice o ln cap] 26) := ⟨_, rfl⟩
      rw [← hWA]
      have hbA : Bl w WA := by rw [hWA]; exact (Bl.refl w).alloc _
      have hsA : WA.heap.size = w.heap.size + 1 := by rw [hWA, World.size_alloc]
      obtain ⟨k0, k1, k2, k3, k4, k5, k6⟩ := own7b (W := w) (W' := WA) rfl (by rw [hWA]; exact Bl.refl _)
      obtain ⟨W1, hW1⟩ : ∃ W1, W1 = WA.alloc (.cells #[.int .i64 n] 3) := ⟨_, rfl⟩
      rw [← hW1]
      have hb1 : Bl w W1 := by rw [hW1]; exact hbA.alloc _
      have hAB : Bl WA W1 := by rw [hW1]; exact (Bl.refl _).alloc _
      have kn : W1.cell? ⟨w.heap.size + 1, 0, none⟩ = some (.int .i64 n) := by rw [hW1, ← hsA]; simp
      replace k0 := hAB.cell k0
      replace k1 := hAB.cell k1
      replace k2 := hAB.cell k2
      replace k3 := hAB.cell k3
      replace k4 := hAB.cell k4
      replace k5 := hAB.cell k5
      replace k6 := hAB.cell k6
      clear hW1 hWA hbA hAB hsA
      refine (A1.out _ hb1).mono ?_
      rintro e w2 ⟨rfl, g2'⟩
      have g2 := g2'.bl
      clear g2'
      replace k0 := g2.cell k0
      replace k1 := g2.cell k1
      replace k2 := g2.cell k2
      replace k3 := g2.cell k3
      replace k4 := g2.cell k4
      replace k5 := g2.cell k5
      replace k6 := g2.cell k6
      replace kn := g2.cell kn
      have hb2 : Bl w w2 := hb1.trans g2
      clear g2 hb1
      go_wp2_with fail
      refine (TT.out _ hb2).mono ?_
      rintro e w3 ⟨rfl, g3⟩
      replace k0 := g3.cell k0
      replace k1 := g3.cell k1
      replace k2 := g3.cell k2
      replace k3 := g3.cell k3
      replace k4 := g3.cell k4
      replace k5 := g3.cell k5
      replace k6 := g3.cell k6
      replace kn := g3.cell kn
      have hb3 : Bl w w3 := hb2.trans g3
      clear g3 hb2
      go_wp2_with fail
      refine (A2.out _ hb3).mono ?_
      rintro e w4 ⟨rfl, g4'⟩
      have g4 := g4'.bl
      clear g4'
      replace k0 := g4.cell k0
      replace k1 := g4.cell k1
      replace k2 := g4.cell k2
      replace k3 := g4.cell k3
      replace k4 := g4.cell k4
      replace k5 := g4.cell k5
      replace k6 := g4.cell k6
      replace kn := g4.cell kn
      have hb4 : Bl w w4 := hb3.trans g4
      clear g4 hb3
      go_wp2_with fail
      refine (HB1.out _ _ _ k0 k1 kn).mono ?_
      rintro e w5 ⟨rfl, rfl⟩
      go_wp2_with fail
      refine (A3.out _ hb4).mono ?_
      rintro e w6 ⟨rfl, g6'⟩
      have g6 := g6'.bl
      clear g6'
      replace k0 := g6.cell k0
      replace k1 := g6.cell k1
      replace k2 := g6.cell k2
      replace k3 := g6.cell k3
      replace k4 := g6.cell k4
      replace k5 := g6.cell k5
      replace k6 := g6.cell k6
      replace kn := g6.cell kn
      have hb6 : Bl w w6 := hb4.trans g6
      clear g6 hb4
      go_wp2_with fail
      refine (HB2.out _ _ _ k0 k1 kn).mono ?_
      rintro e w7 ⟨rfl, rfl⟩
      go_wp2_with fail
      go_returns
      exact ⟨by first | rfl | exact ret_bool (by simp), hb6⟩
  · have hno : reV F T S Dl Tm k l n = 0 ∧ (reB F T S Dl Tm k l n = false ∨ reX F T S Dl Tm k l n ≠ 0) := by
      by_cases hc : ckFade F T S Dl Tm k l = 0
      · cases h2 : isLev n with
        | false =>
          obtain ⟨r1, r2, _⟩ := re_lv hc h2
          exact ⟨r1, Or.inl r2⟩
        | true =>
          cases h3 : rchB F T n T with
          | false =>
            obtain ⟨r1, r2, _⟩ := re_no hc h2 h3
            exact ⟨r1, Or.inl r2⟩
          | true => exact absurd ⟨hc, h2, h3⟩ hyes
      · obtain ⟨r1, r2, _⟩ := re_ck hc
        exact ⟨r1, Or.inl r2⟩
    obtain ⟨r1, r2⟩ := hno
    have r2 : reB F T S Dl Tm k l n = false ∨ reX F T S Dl Tm k l n ≠ 0 := r2
    rw [r1] at A1
    generalize reX F T S Dl Tm k l n = rx at *
    generalize reB F T S Dl Tm k l n = rb at *
    have A1 := Lib.hid A1
    clear h hyes r1
    subst hsv
    by_cases hrx : rx = 0
    · have hrb : rb = false := by
        rcases r2 with r2 | r2
        · exact r2
        · exact absurd hrx r2
      subst hrx hrb
      clear r2
      go_enter Tryd.func3, Tryd.ntmps3
      go_wp2_with fail
      refine (A1.out _ (((Bl.refl w).alloc _).alloc _)).mono ?_
      rintro e w1 ⟨rfl, g1⟩
      have hb1 : Bl w w1 := (((Bl.refl w).alloc _).alloc _).trans g1.bl
      go_wp2_with fail
      refine (TT.out _ hb1).mono ?_
      rintro e w2 ⟨rfl, g2⟩
      go_wp2_with fail
      go_returns
      exact ⟨by first | rfl | exact ret_bool (by simp), hb1.trans g2⟩
    · have hxb : (rx != 0) = true := by simpa using hrx
      clear r2 hrx
      go_enter Tryd.func3, Tryd.ntmps3
      go_wp2_with fail
      refine (A1.out _ (((Bl.refl w).alloc _).alloc _)).mono ?_
      rintro e w1 ⟨rfl, g1⟩
      have hb1 : Bl w w1 := (((Bl.refl w).alloc _).alloc _).trans g1.bl
      go_wp2_with fail
      refine (TT.out _ hb1).mono ?_
      rintro e w2 ⟨rfl, g2⟩
      go_wp2_with fail
      go_returns
      exact ⟨by first | rfl | exact ret_bool (by simp), hb1.trans g2⟩
theorem own : ownKnob Tryd.prog.godebug = none := by kernel_rfl
theorem laid : laidOutB Tryd.prog = true := by kernel_rfl

set_option maxRecDepth 100000 in
theorem lifted (os : Os) (started : os.Started) (H : Type) (enc : TypeId × Value → H) :
    ReturnsInHanded {} Tryd.checked os 3 .any (fun w args => (Rows.levelReachIsFirstSpec.pre enc Tryd.prog Tryd.f3 Rows.levelReachIsFirstRow.domain false w args ∧ laidMetH Tryd.prog Rows.levelReachIsFirstRow.laid w) ∧ sizedMet enc Tryd.prog Tryd.f3 (OpenSpec.ofChange Rows.levelReachIsFirstSpec) false w args) (Rows.levelReachIsFirstSpec.post enc Tryd.prog Tryd.f3 false true false false) := by
  refine lift_tied (C := Tryd.checked) (X := fun w _ => laidMetH Tryd.prog Rows.levelReachIsFirstRow.laid w) (fun _ _ _ hh h => h.of_heap hh) own started (by kernel_rfl) Tryd.func3
    (ChangeSpec.witness_shaped (enc := enc) (C := Tryd.checked) (os := os) (X := fun w _ => laidMetH Tryd.prog Rows.levelReachIsFirstRow.laid w) false (World.laidAll Tryd.prog os Rows.levelReachIsFirstRow.laid) #[.agg #[.int .i64 0, .int .i64 0, .int .i64 0, .int .i64 0, .int .i64 0, .int .i64 0, .slice none 0 0], .int .i64 0] 8 (World.laidAll_os _ _ _)
      (World.shaped_of_ZipB (by kernel_rfl) (by kernel_rfl)) (by kernel_rfl) (by kernel_rfl) (by kernel_rfl)
      (by rw [MakeChecks.laidMetH_plain _ _ _ (by kernel_rfl)]; exact laidMet_laidAll _ (by kernel_rfl) (by kernel_rfl))) ?_
  intro W base args ds gs before hval0 hW hsz0 hL0 hsh
  obtain ⟨mx, hmx⟩ := maxLen_cell hsh
  have hL : laidMetH Tryd.prog Rows.levelReachIsFirstRow.laid W := hL0
  rw [MakeChecks.laidMetH_plain _ _ _ (by kernel_rfl)] at hL
  have htab := pow_tab hL.tail.tail
  have hval : ∀ (j : Nat) t v, Tryd.f3.params[j]? = some t → args[j]? = some v → Value.okWide Tryd.prog W .any base t v := hval0
  have hW' := hW
  obtain ⟨p, q, hA0, hV, rfl, hfz, hnd⟩ := hW
  have hA : DataW.TrodAll enc Tryd.prog W 0 (fun _ => true) true Tryd.f3.params.toList args.toList ds p := hA0
  rw [Tryd.params3] at hA hval
  obtain ⟨v0, vs0, d0, ds0, p0, q0, hargs, rfl, rfl, h0, r0⟩ := trodAll_cons hA
  obtain ⟨v1, vs1, d1, ds1, p1, q1, rfl, rfl, rfl, h1, r1⟩ := trodAll_cons r0
  obtain ⟨rfl, rfl, rfl⟩ := trodAll_nil r1
  obtain rfl : args = #[v0, v1] := by cases args; simp_all
  obtain ⟨rfl, rfl⟩ := trodVars_none hV
  obtain ⟨F0, T0, S0, Dl0, Tm0, k0, sv0, l0, rfl, wf0, hp0, wp0⟩ := open_fade (hval 0 26 v0 rfl rfl) h0
  obtain ⟨a1, rfl, rfl, rfl, w1⟩ := open_int Tryd.underlying3 (hval 1 3 v1 rfl rfl) h1
  clear hA0 hval0
  refine (walk F0 T0 S0 Dl0 Tm0 k0 sv0 l0 a1 mx W hp0 htab hmx).mono fun e W' ⟨he, hg⟩ => ?_
  subst he
  exact ⟨_, rfl, law_old hW' rfl rfl (by kernel_rfl) Tryd.underlying4 laid (by kernel_rfl) hg⟩

theorem over : Rows.levelReachIsFirstRow.holds Tryd.pinned (OpenSpec.ofChange Rows.levelReachIsFirstSpec) :=
  OpenClaim.holds_of_wide 3 Tryd.f3 rfl rfl rfl rfl rfl rfl rfl ⟨rfl, rfl, rfl, rfl, rfl⟩ rfl rfl rfl rfl rfl (by kernel_rfl) Tryd.func3 (by kernel_rfl)
    (of_decide_eq_true (by kernel_rfl)) (by unfold Func.isWrapper; first | (rw [if_pos (by decide +kernel)]; kernel_rfl) | (rw [if_neg (by decide +kernel)]; exact ⟨rfl, rfl⟩))
    (fun os started H enc _ => lifted os started H enc)

/-- The card: the statement. -/
theorem proved : Rows.LevelReachIsFirstCardSaid :=
  Claim7.holds_tied_plain_at .later [] [.data, .data, .data, .data, .pinned] true (true, "6d4bcf18f56b5f91eecc256040459a48f65d56a536fed741c29f02e83a84d088") true over (fun _ h => by cases h) (by kernel_rfl) (fun _ h => by cases h) levelReachIsFirst_row_tie rfl ⟨rfl, rfl⟩ (by kernel_rfl) rfl
    (fun f fn hf hfn => by
      obtain rfl : f = 3 := Option.some.inj ((show Tryd.prog.funcNamed "cyclorama/cycloramalaw1.LevelReachIsFirst" = some 3 by kernel_rfl).symm.trans hf) |>.symm
      obtain rfl : fn = Tryd.f3 := (Option.some.inj (Tryd.func3.symm.trans hfn)).symm
      exact ⟨by kernel_rfl, fun j t ht => by
        rw [Tryd.params3] at ht
        have hm := Array.mem_of_getElem? ht
        have hall : ((#[26, 3] : Array TypeId).toList.all fun u => !Tryd.prog.wantsStandIn u) = true := by kernel_rfl
        exact (show Tryd.prog.wantsStandIn t = false by simpa using List.all_eq_true.1 hall t (by simpa using hm))⟩)
    (by kernel_rfl)
end Go.Proofs.YtfeeolfekfkdiaaDoor.reachfirst

