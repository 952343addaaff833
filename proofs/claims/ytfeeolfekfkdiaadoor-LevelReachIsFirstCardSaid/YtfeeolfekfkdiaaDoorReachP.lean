/- Reach of the program: the search for the first time. -/
import Derived.Test.YtfeeolfekfkdiaaDoorAt
import Derived.Test.YtfeeolfekfkdiaaDoorFadeM
namespace Go.Proofs.YtfeeolfekfkdiaaDoor
open Go.RowKit Go.Sort

/-- v is a function that asks p of a time from lo on and below hi. -/
def AskFn (w : World) (p : Int → Bool) (lo hi : Int) (v : Value) : Prop := ∃ (g : Nat) (cb : Array Value), v = .func (.func g) #[] cb ∧ (∀ args w1, (callFunc g args).run Tryd.prog w1 = .ok (.enter g args) w1) ∧
  ∀ w1 t, Bl w w1 → lo ≤ t → t < hi → Calls Tryd.prog g (#[.int .i64 t] ++ cb) w1 fun e w' => e = .returned (.bool (p t)) ∧ Gr w1 w'
theorem AskFn.gr {w w' : World} {p : Int → Bool} {lo hi : Int} {v : Value} (h : AskFn w p lo hi v) (g : Gr w w') : AskFn w' p lo hi v := by
  obtain ⟨f, cb, h1, h2, h3⟩ := h
  exact ⟨f, cb, h1, h2, fun w1 t hg => h3 w1 t (g.bl.trans hg)⟩
theorem AskFn.bl {w w' : World} {p : Int → Bool} {lo hi : Int} {v : Value} (h : AskFn w p lo hi v) (g : Bl w w') : AskFn w' p lo hi v := by
  obtain ⟨f, cb, h1, h2, h3⟩ := h
  exact ⟨f, cb, h1, h2, fun w1 t hg => h3 w1 t (g.trans hg)⟩

set_option maxHeartbeats 800000 in
theorem first_fn (bh ba : Nat) (a lo hi : Int) (i : Nat) (p : Int → Bool) (vh : Value) (w : World) (h0 : w.cell? ⟨bh, 0, none⟩ = some vh) (h1 : w.cell? ⟨ba, 0, none⟩ = some (.int .i64 a)) (hA : AskFn w p lo hi vh) (a0 : 0 ≤ a) (a1 : a + i < hi) (hh : hi ≤ 36000001) (hl : lo ≤ a) :
    Calls Tryd.prog 69 (#[.int .i64 i] ++ #[.pointer (some ⟨bh, 0, none⟩), .pointer (some ⟨ba, 0, none⟩)]) w fun e w' => e = .returned (.bool (p (a + i))) ∧ Gr w w' := by
  obtain ⟨g, cb, rfl, eg, hf⟩ := hA
  have HV := Lib.hid (fun w1 (g1 : Gr w w1) => hf w1 (a + i) g1.bl (by omega) a1)
  clear hf
  have hbh := World.block_lt_of_cell? _ _ h0
  have hba := World.block_lt_of_cell? _ _ h1
  simp only at hbh hba
  have hwr : IntKind.i64.wrap (a + (i : Int)) = a + (i : Int) := IntWalk.i64_in _ (by omega)
  go_enter Tryd.func69, Tryd.ntmps69
  go_wp2_with fail
  refine (HV.out _ (Gr.refl _)).mono ?_
  rintro e w2 ⟨rfl, g2⟩
  go_wp2_with fail
  go_returns
  exact ⟨rfl, g2⟩

set_option maxHeartbeats 800000 in
theorem first_prog (a b : Int) (p : Int → Bool) (vh : Value) (w : World) (hA : AskFn w p a b vh) (a0 : 0 ≤ a) (hab : a ≤ b) (b1 : b ≤ 36000000) (hm : ∀ s t, a ≤ s → s ≤ t → t < b → p s = true → p t = true) :
    Calls Tryd.prog 37 #[.int .i64 a, .int .i64 b, vh] w fun e w' => e = .returned (.int .i64 (fstP p a b)) ∧ Gr w w' := by
  obtain ⟨n, hn⟩ := Int.eq_ofNat_of_zero_le (show 0 ≤ b - a by omega)
  have hA' := hA
  obtain ⟨g, cb, rfl, eg, _⟩ := hA'
  have HS : Hid (∀ w1 bh ba, Gr w w1 → w1.cell? ⟨bh, 0, none⟩ = some (.func (.func g) #[] cb) → w1.cell? ⟨ba, 0, none⟩ = some (.int .i64 a) →
      Calls Tryd.prog 68 #[.int .i64 (b - a), .func (.func 69) #[] #[.pointer (some ⟨bh, 0, none⟩), .pointer (some ⟨ba, 0, none⟩)]] w1 fun e w' => e = .returned (.int .i64 (fstP p a b - a)) ∧ Gr w1 w') := fun w1 bh ba hg h0 h1 => by
    rw [hn]
    have h := search 69 #[.pointer (some ⟨bh, 0, none⟩), .pointer (some ⟨ba, 0, none⟩)] n (fun i => p (a + (i : Int))) w1
      (enters_of Tryd.func69 (by kernel_rfl) rfl) (by omega)
      (fun w2 i hw hi => first_fn bh ba a a b i p _ w2 (hw.cell h0) (hw.cell h1) (hA.gr (hg.trans hw)) a0 (by omega) (by omega) (by omega))
      (fun x y hxy hy hx => hm _ _ (by omega) (by omega) (by omega) hx)
    refine h.mono fun e w' ⟨he, hw⟩ => ⟨?_, hw⟩
    rw [he]
    unfold fstP
    rw [show (b - a).toNat = n by omega]
    congr 2
    omega
  obtain ⟨r1, r2⟩ := fst_bd (p := p) hab
  have hwr : IntKind.i64.wrap (b - a) = b - a := IntWalk.i64_in _ (by omega)
  clear hA hm hn
  generalize fstP p a b = R at *
  have hwr2 : IntKind.i64.wrap (a + (R - a)) = R := by rw [IntWalk.i64_in _ (by omega)]; omega
  go_enter Tryd.func37, Tryd.ntmps37
  go_wp2_with fail
  have hw2 : Gr w ((w.alloc (.cells #[.int .i64 a] 3)).alloc (.cells #[.func (.func g) #[] cb] 31)) := ((Gr.refl w).alloc _).alloc _
  have hc1 : ((w.alloc (.cells #[.int .i64 a] 3)).alloc (.cells #[.func (.func g) #[] cb] 31)).cell? ⟨w.heap.size, 0, none⟩ = some (.int .i64 a) := by simp
  have hc2 : ((w.alloc (.cells #[.int .i64 a] 3)).alloc (.cells #[.func (.func g) #[] cb] 31)).cell? ⟨w.heap.size + 1, 0, none⟩ = some (.func (.func g) #[] cb) := by simp
  generalize (w.alloc (.cells #[.int .i64 a] 3)).alloc (.cells #[.func (.func g) #[] cb] 31) = W at *
  go_region_held3 (fun w' => w'.cell? ⟨w.heap.size, 0, none⟩ = some (.int .i64 a) ∧ w'.cell? ⟨w.heap.size + 1, 0, none⟩ = some (.func (.func g) #[] cb))
    (refine ⟨Gr.cell (w := W) ?_ hc1, Gr.cell (w := W) ?_ hc2⟩ <;> ((repeat (first | with_reducible exact Gr.refl _ | with_reducible assumption | with_reducible refine Gr.drew ?_ | with_reducible refine Gr.alloc ?_ _ | with_reducible refine Gr.trans ?_ (by assumption))); done))
    ((go_at_call 68; refine (HS.out _ _ _ (by ((repeat (first | with_reducible exact Gr.refl _ | with_reducible assumption | with_reducible refine Gr.drew ?_ | with_reducible refine Gr.alloc ?_ _ | with_reducible refine Gr.trans ?_ (by assumption))); done)) (Gr.cell (w := W) (by ((repeat (first | with_reducible exact Gr.refl _ | with_reducible assumption | with_reducible refine Gr.drew ?_ | with_reducible refine Gr.alloc ?_ _ | with_reducible refine Gr.trans ?_ (by assumption))); done)) hc2) (Gr.cell (w := W) (by ((repeat (first | with_reducible exact Gr.refl _ | with_reducible assumption | with_reducible refine Gr.drew ?_ | with_reducible refine Gr.alloc ?_ _ | with_reducible refine Gr.trans ?_ (by assumption))); done)) hc1)).mono ?_; rintro e w2 ⟨rfl, g2⟩))
  go_wp2_with fail
  go_returns
  exact ⟨by first | rfl | exact ret_int (by rw [hwr2]), by ((repeat (first | with_reducible exact Gr.refl _ | with_reducible assumption | with_reducible refine Gr.drew ?_ | with_reducible refine Gr.alloc ?_ _ | with_reducible refine Gr.trans ?_ (by assumption))); done)⟩

set_option maxHeartbeats 800000 in
theorem reach_fn (bf ba bl : Nat) (F T S Dl Tm k n t : Int) (l : List (Int × Int)) (va : Value) (w : World)
    (c0 : w.cell? ⟨bf, 0, none⟩ = some (.int .i64 F)) (c1 : w.cell? ⟨bf, 1, none⟩ = some (.int .i64 T)) (ca : w.cell? ⟨ba, 0, none⟩ = some va) (cl : w.cell? ⟨bl, 0, none⟩ = some (.int .i64 n))
    (hA : TimeFn w (fadeAt F T S Dl Tm k l) va) (t0 : 0 ≤ t) (t1 : t ≤ 36000000) :
    Calls Tryd.prog 35 (#[.int .i64 t] ++ #[.pointer (some ⟨bf, 0, none⟩), .pointer (some ⟨ba, 0, none⟩), .pointer (some ⟨bl, 0, none⟩)]) w fun e w' => e = .returned (.bool (rchB F T n (fadeAt F T S Dl Tm k l t))) ∧ Gr w w' := by
  obtain ⟨g, cb, rfl, eg, hf⟩ := hA
  have HV := Lib.hid (fun w1 (g1 : Gr w w1) => hf w1 t g1.bl t0 t1)
  clear hf
  generalize fadeAt F T S Dl Tm k l t = a at *
  have hbf := World.block_lt_of_cell? _ _ c0
  have hba := World.block_lt_of_cell? _ _ ca
  have hbl := World.block_lt_of_cell? _ _ cl
  simp only at hbf hba hbl
  by_cases h1 : F < T
  · have e : Hid (rchB F T n a = decide (n ≤ a)) := by show _ = _; unfold rchB; rw [if_pos h1]
    go_enter Tryd.func35, Tryd.ntmps35
    go_wp2_with fail
    go_region_held3 (fun w' => w'.cell? ⟨ba, 0, none⟩ = some (.func (.func g) #[] cb) ∧ w'.cell? ⟨bl, 0, none⟩ = some (.int .i64 n))
      (refine ⟨Gr.cell (w := w) ?_ ca, Gr.cell (w := w) ?_ cl⟩ <;> ((repeat (first | with_reducible exact Gr.refl _ | with_reducible assumption | with_reducible refine Gr.drew ?_ | with_reducible refine Gr.alloc ?_ _ | with_reducible refine Gr.trans ?_ (by assumption))); done))
      ((go_at_fn g; refine (HV.out _ (by ((repeat (first | with_reducible exact Gr.refl _ | with_reducible assumption | with_reducible refine Gr.drew ?_ | with_reducible refine Gr.alloc ?_ _ | with_reducible refine Gr.trans ?_ (by assumption))); done))).mono ?_; rintro e w2 ⟨rfl, g2⟩))
    go_wp2_with fail
    go_returns
    exact ⟨ret_bool e.out.symm, by ((repeat (first | with_reducible exact Gr.refl _ | with_reducible assumption | with_reducible refine Gr.drew ?_ | with_reducible refine Gr.alloc ?_ _ | with_reducible refine Gr.trans ?_ (by assumption))); done)⟩
  by_cases h2 : T < F
  · have e : Hid (rchB F T n a = decide (a ≤ n)) := by show _ = _; unfold rchB; rw [if_neg h1, if_pos h2]
    go_enter Tryd.func35, Tryd.ntmps35
    go_wp2_with fail
    go_region_held3 (fun w' => w'.cell? ⟨ba, 0, none⟩ = some (.func (.func g) #[] cb) ∧ w'.cell? ⟨bl, 0, none⟩ = some (.int .i64 n))
      (refine ⟨Gr.cell (w := w) ?_ ca, Gr.cell (w := w) ?_ cl⟩ <;> ((repeat (first | with_reducible exact Gr.refl _ | with_reducible assumption | with_reducible refine Gr.drew ?_ | with_reducible refine Gr.alloc ?_ _ | with_reducible refine Gr.trans ?_ (by assumption))); done))
      ((go_at_fn g; refine (HV.out _ (by ((repeat (first | with_reducible exact Gr.refl _ | with_reducible assumption | with_reducible refine Gr.drew ?_ | with_reducible refine Gr.alloc ?_ _ | with_reducible refine Gr.trans ?_ (by assumption))); done))).mono ?_; rintro e w2 ⟨rfl, g2⟩))
    go_wp2_with fail
    go_returns
    exact ⟨ret_bool e.out.symm, by ((repeat (first | with_reducible exact Gr.refl _ | with_reducible assumption | with_reducible refine Gr.drew ?_ | with_reducible refine Gr.alloc ?_ _ | with_reducible refine Gr.trans ?_ (by assumption))); done)⟩
  · have e : Hid (rchB F T n a = (a == n)) := by show _ = _; unfold rchB; rw [if_neg h1, if_neg h2]; rfl
    go_enter Tryd.func35, Tryd.ntmps35
    go_wp2_with fail
    go_region_held3 (fun w' => w'.cell? ⟨ba, 0, none⟩ = some (.func (.func g) #[] cb) ∧ w'.cell? ⟨bl, 0, none⟩ = some (.int .i64 n))
      (refine ⟨Gr.cell (w := w) ?_ ca, Gr.cell (w := w) ?_ cl⟩ <;> ((repeat (first | with_reducible exact Gr.refl _ | with_reducible assumption | with_reducible refine Gr.drew ?_ | with_reducible refine Gr.alloc ?_ _ | with_reducible refine Gr.trans ?_ (by assumption))); done))
      ((go_at_fn g; refine (HV.out _ (by ((repeat (first | with_reducible exact Gr.refl _ | with_reducible assumption | with_reducible refine Gr.drew ?_ | with_reducible refine Gr.alloc ?_ _ | with_reducible refine Gr.trans ?_ (by assumption))); done))).mono ?_; rintro e w2 ⟨rfl, g2⟩))
    go_wp2_with fail
    go_returns
    exact ⟨ret_bool e.out.symm, by ((repeat (first | with_reducible exact Gr.refl _ | with_reducible assumption | with_reducible refine Gr.drew ?_ | with_reducible refine Gr.alloc ?_ _ | with_reducible refine Gr.trans ?_ (by assumption))); done)⟩

theorem reach_fn2 (bf ba bl : Nat) (F T S Dl Tm k n t : Int) (l : List (Int × Int)) (va : Value) (w : World) (b : Bool) (hb : rchB F T n (fadeAt F T S Dl Tm k l t) = b)
    (c0 : w.cell? ⟨bf, 0, none⟩ = some (.int .i64 F)) (c1 : w.cell? ⟨bf, 1, none⟩ = some (.int .i64 T)) (ca : w.cell? ⟨ba, 0, none⟩ = some va) (cl : w.cell? ⟨bl, 0, none⟩ = some (.int .i64 n))
    (hA : TimeFn w (fadeAt F T S Dl Tm k l) va) (t0 : 0 ≤ t) (t1 : t ≤ 36000000) :
    Calls Tryd.prog 35 (#[.int .i64 t] ++ #[.pointer (some ⟨bf, 0, none⟩), .pointer (some ⟨ba, 0, none⟩), .pointer (some ⟨bl, 0, none⟩)]) w fun e w' => e = .returned (.bool b) ∧ Gr w w' := by
  subst hb; exact reach_fn bf ba bl F T S Dl Tm k n t l va w c0 c1 ca cl hA t0 t1
theorem reach_ask (bf ba bl : Nat) (F T S Dl Tm k n lo hi : Int) (l : List (Int × Int)) (va : Value) (w : World)
    (c0 : w.cell? ⟨bf, 0, none⟩ = some (.int .i64 F)) (c1 : w.cell? ⟨bf, 1, none⟩ = some (.int .i64 T)) (ca : w.cell? ⟨ba, 0, none⟩ = some va) (cl : w.cell? ⟨bl, 0, none⟩ = some (.int .i64 n))
    (hA : TimeFn w (fadeAt F T S Dl Tm k l) va) (t0 : 0 ≤ lo) (t1 : hi ≤ 36000001) :
    AskFn w (fun t => rchB F T n (fadeAt F T S Dl Tm k l t)) lo hi (.func (.func 35) #[] #[.pointer (some ⟨bf, 0, none⟩), .pointer (some ⟨ba, 0, none⟩), .pointer (some ⟨bl, 0, none⟩)]) :=
  ⟨_, _, rfl, enters_of Tryd.func35 (by kernel_rfl) rfl, fun w1 t hg h0 h1 => reach_fn bf ba bl F T S Dl Tm k n t l va w1 (hg.cell c0) (hg.cell c1) (hg.cell ca) (hg.cell cl) (hA.bl hg) (by omega) (by omega)⟩

theorem own8 {w W : World} {a b c d x y z u : Value} {t t' : TypeId} (h : Gr ((w.alloc (.cells #[a, b, c, d, x, y, z] t)).alloc (.cells #[u] t')) W) :
    (W.cell? ⟨w.heap.size, 0, none⟩ = some a ∧ W.cell? ⟨w.heap.size, 1, none⟩ = some b ∧ W.cell? ⟨w.heap.size, 2, none⟩ = some c ∧ W.cell? ⟨w.heap.size, 3, none⟩ = some d ∧ W.cell? ⟨w.heap.size, 4, none⟩ = some x ∧ W.cell? ⟨w.heap.size, 5, none⟩ = some y ∧ W.cell? ⟨w.heap.size, 6, none⟩ = some z) ∧ W.cell? ⟨w.heap.size + 1, 0, none⟩ = some u :=
  ⟨own7 (((Gr.refl _).alloc _).trans h), h.cell (by simp)⟩

set_option maxRecDepth 100000 in
set_option maxHeartbeats 3200000 in
theorem reach_prog (F T S Dl Tm k n : Int) (sv : Value) (l : List (Int × Int)) (w : World) (h : PtsAny w sv l) :
    Calls Tryd.prog 10 #[.agg #[.int .i64 F, .int .i64 T, .int .i64 S, .int .i64 Dl, .int .i64 Tm, .int .i64 k, sv], .int .i64 n] w fun e w' => e = .returned (.tuple #[.int .i64 (reV F T S Dl Tm k l n), .bool (reB F T S Dl Tm k l n), .int .i64 (reX F T S Dl Tm k l n)]) ∧ Gr w w' := by
  have HC := fun w1 (g : Gr w w1) => checkFade_any F T S Dl Tm k sv l w1 (h.gr g)
  by_cases hc : ckFade F T S Dl Tm k l = 0
  · rw [hc] at HC
    have HC := Lib.hid HC
    have hT := fun w => isLevel_any n w
    cases ht : isLev n with
    | false =>
      have e := Lib.hid (re_lv hc ht)
      rw [ht] at hT
      have HT := Lib.hid hT
      clear h hc ht hT
      go_enter Tryd.func10, Tryd.ntmps10
      go_wp2_with fail
      refine (HC.out _ (((Gr.refl w).alloc _).alloc _)).mono ?_
      rintro e' w1 ⟨rfl, g1⟩
      obtain ⟨_, k7⟩ := own8 g1
      go_wp2_with fail
      refine (HT.out _).mono ?_
      rintro e' w2 ⟨rfl, rfl⟩
      go_wp2_with fail
      go_returns
      exact ⟨by rw [e.out.1, e.out.2.1, e.out.2.2]; rfl, (((Gr.refl w).alloc _).alloc _).trans g1⟩
    | true =>
      rw [ht] at hT
      have HT := Lib.hid hT
      obtain ⟨hok, hcc⟩ := okFade_of hc
      have HO := Lib.hid (fun w1 (g : Gr w w1) => course_any F T S Dl Tm k l sv w1 hok (curveAt_of (h.gr g) hcc))
      have HE := Lib.hid (fun w1 => end_any F T S Dl Tm k sv w1 hok.s0 hok.s1 hok.d0 hok.d1 hok.m0 hok.m1)
      have s0 := hok.s0
      have s1 := hok.s1
      have se : S ≤ S + Dl + Tm := by have := hok.d0; have := hok.m0; omega
      have e1 := hok.e1
      have HM := Lib.hid (fun s t (hst : s ≤ t) (hs : rchB F T n (fadeAt F T S Dl Tm k l s) = true) => rchB_mono hok hst hs)
      have hfe : Hid (fadeAt F T S Dl Tm k l (S + Dl + Tm) = T) := fade_end
      cases hr0 : rchB F T n T with
      | false =>
        have e := Lib.hid (re_no hc ht hr0)
        have hr := Lib.hid hr0
        clear hr0
        go_enter Tryd.func10, Tryd.ntmps10
        clear h hc ht hT hok hcc
        go_wp2_with fail
        refine (HC.out _ (((Gr.refl w).alloc _).alloc _)).mono ?_
        rintro e' w1 ⟨rfl, g1⟩
        obtain ⟨⟨k0, k1, k2, k3, k4, k5, k6⟩, k7⟩ := own8 g1
        go_wp2_with fail
        refine (HT.out _).mono ?_
        rintro e' w2 ⟨rfl, rfl⟩
        go_wp2_with fail
        refine (HO.out _ ((((Gr.refl w).alloc _).alloc _).trans g1)).mono ?_
        rintro e' w3 ⟨v, rfl, hV, g2⟩
        have hV' := hV
        obtain ⟨g, cb, rfl, eg, _⟩ := hV'
        have HV := Lib.hid hV
        clear hV
        obtain ⟨⟨k0, k1, k2, k3, k4, k5, k6⟩, k7⟩ := own8 (g1.trans g2)
        have hz1 : w.heap.size + 1 < w3.heap.size := by have := (g1.trans g2).size; simp at this; omega
        have hz0 : w.heap.size < w3.heap.size := by omega
        go_wp2_with fail
        refine (HE.out _).mono ?_
        rintro e' w4 ⟨rfl, rfl⟩
        go_wp2_with fail
        refine (reach_fn2 w.heap.size w3.heap.size (w.heap.size + 1) F T S Dl Tm k n (S + Dl + Tm) l (.func (.func g) #[] cb) _ false (by rw [hfe.out, hr.out]) (Gr.cell (w := w3) (by ((repeat (first | with_reducible exact Gr.refl _ | with_reducible assumption | with_reducible refine Gr.drew ?_ | with_reducible refine Gr.alloc ?_ _ | with_reducible refine Gr.trans ?_ (by assumption))); done)) k0) (Gr.cell (w := w3) (by ((repeat (first | with_reducible exact Gr.refl _ | with_reducible assumption | with_reducible refine Gr.drew ?_ | with_reducible refine Gr.alloc ?_ _ | with_reducible refine Gr.trans ?_ (by assumption))); done)) k1) (by simp) (Gr.cell (w := w3) (by ((repeat (first | with_reducible exact Gr.refl _ | with_reducible assumption | with_reducible refine Gr.drew ?_ | with_reducible refine Gr.alloc ?_ _ | with_reducible refine Gr.trans ?_ (by assumption))); done)) k7) (HV.out.gr (by ((repeat (first | with_reducible exact Gr.refl _ | with_reducible assumption | with_reducible refine Gr.drew ?_ | with_reducible refine Gr.alloc ?_ _ | with_reducible refine Gr.trans ?_ (by assumption))); done))) (by omega) e1).mono ?_
        rintro e' w5 ⟨rfl, g3⟩
        go_wp2_with fail
        go_returns
        exact ⟨by rw [e.out.1, e.out.2.1, e.out.2.2]; rfl, Gr.trans (((((Gr.refl w).alloc _).alloc _).trans g1).trans g2) (Gr.trans (by ((repeat (first | with_reducible exact Gr.refl _ | with_reducible assumption | with_reducible refine Gr.drew ?_ | with_reducible refine Gr.alloc ?_ _ | with_reducible refine Gr.trans ?_ (by assumption))); done)) g3)⟩
      | true =>
        have e := Lib.hid (re_yes hc ht hr0)
        have hr := Lib.hid hr0
        clear hr0
        go_enter Tryd.func10, Tryd.ntmps10
        clear h hc ht hT hok hcc
        go_wp2_with fail
        refine (HC.out _ (((Gr.refl w).alloc _).alloc _)).mono ?_
        rintro e' w1 ⟨rfl, g1⟩
        obtain ⟨⟨k0, k1, k2, k3, k4, k5, k6⟩, k7⟩ := own8 g1
        go_wp2_with fail
        refine (HT.out _).mono ?_
        rintro e' w2 ⟨rfl, rfl⟩
        go_wp2_with fail
        refine (HO.out _ ((((Gr.refl w).alloc _).alloc _).trans g1)).mono ?_
        rintro e' w3 ⟨v, rfl, hV, g2⟩
        have hV' := hV
        obtain ⟨g, cb, rfl, eg, _⟩ := hV'
        have HV := Lib.hid hV
        clear hV
        obtain ⟨⟨k0, k1, k2, k3, k4, k5, k6⟩, k7⟩ := own8 (g1.trans g2)
        have hz1 : w.heap.size + 1 < w3.heap.size := by have := (g1.trans g2).size; simp at this; omega
        have hz0 : w.heap.size < w3.heap.size := by omega
        go_wp2_with fail
        refine (HE.out _).mono ?_
        rintro e' w4 ⟨rfl, rfl⟩
        go_wp2_with fail
        refine (reach_fn2 w.heap.size w3.heap.size (w.heap.size + 1) F T S Dl Tm k n (S + Dl + Tm) l (.func (.func g) #[] cb) _ true (by rw [hfe.out, hr.out]) (Gr.cell (w := w3) (by ((repeat (first | with_reducible exact Gr.refl _ | with_reducible assumption | with_reducible refine Gr.drew ?_ | with_reducible refine Gr.alloc ?_ _ | with_reducible refine Gr.trans ?_ (by assumption))); done)) k0) (Gr.cell (w := w3) (by ((repeat (first | with_reducible exact Gr.refl _ | with_reducible assumption | with_reducible refine Gr.drew ?_ | with_reducible refine Gr.alloc ?_ _ | with_reducible refine Gr.trans ?_ (by assumption))); done)) k1) (by simp) (Gr.cell (w := w3) (by ((repeat (first | with_reducible exact Gr.refl _ | with_reducible assumption | with_reducible refine Gr.drew ?_ | with_reducible refine Gr.alloc ?_ _ | with_reducible refine Gr.trans ?_ (by assumption))); done)) k7) (HV.out.gr (by ((repeat (first | with_reducible exact Gr.refl _ | with_reducible assumption | with_reducible refine Gr.drew ?_ | with_reducible refine Gr.alloc ?_ _ | with_reducible refine Gr.trans ?_ (by assumption))); done))) (by omega) e1).mono ?_
        rintro e' w5 ⟨rfl, g3⟩
        have g4 : Gr w3 w5 := Gr.trans (((Gr.refl w3).alloc _).alloc _) g3
        have HA := Lib.hid (reach_ask w.heap.size w3.heap.size (w.heap.size + 1) F T S Dl Tm k n S (S + Dl + Tm) l (.func (.func g) #[] cb) w5 (g4.cell k0) (g4.cell k1) (g3.cell (by simp)) (g4.cell k7) (HV.out.gr g4) s0 (by omega))
        have HP := Lib.hid (fun vh w' (hA : AskFn w' (fun t => rchB F T n (fadeAt F T S Dl Tm k l t)) S (S + Dl + Tm) vh) => first_prog S (S + Dl + Tm) (fun t => rchB F T n (fadeAt F T S Dl Tm k l t)) vh w' hA s0 se e1 (fun s t _ hst _ hs => HM.out s t hst hs))
        have hrd := fst_bd (p := fun t => rchB F T n (fadeAt F T S Dl Tm k l t)) se
        generalize hRR : fstP (fun t => rchB F T n (fadeAt F T S Dl Tm k l t)) S (S + Dl + Tm) = RR at *
        obtain ⟨k0, k1, k2, k3, k4, k5, k6⟩ := And.intro (g4.cell k0) (And.intro (g4.cell k1) (And.intro (g4.cell k2) (And.intro (g4.cell k3) (And.intro (g4.cell k4) (And.intro (g4.cell k5) (g4.cell k6))))))
        have hgw : Gr w w5 := Gr.trans (((((Gr.refl w).alloc _).alloc _).trans g1).trans g2) g4
        clear HV HM HO HC HT hRR eg
        go_wp2_with fail
        go_region_held3 (fun w' => w'.cell? ⟨w.heap.size, 0, none⟩ = some (.int .i64 F) ∧ w'.cell? ⟨w.heap.size, 1, none⟩ = some (.int .i64 T) ∧ w'.cell? ⟨w.heap.size, 2, none⟩ = some (.int .i64 S) ∧ w'.cell? ⟨w.heap.size, 3, none⟩ = some (.int .i64 Dl) ∧ w'.cell? ⟨w.heap.size, 4, none⟩ = some (.int .i64 Tm) ∧ w'.cell? ⟨w.heap.size, 5, none⟩ = some (.int .i64 k) ∧ w'.cell? ⟨w.heap.size, 6, none⟩ = some sv)
          (refine ⟨Gr.cell (w := w5) ?_ k0, Gr.cell (w := w5) ?_ k1, Gr.cell (w := w5) ?_ k2, Gr.cell (w := w5) ?_ k3, Gr.cell (w := w5) ?_ k4, Gr.cell (w := w5) ?_ k5, Gr.cell (w := w5) ?_ k6⟩ <;> ((repeat (first | with_reducible exact Gr.refl _ | with_reducible assumption | with_reducible refine Gr.drew ?_ | with_reducible refine Gr.alloc ?_ _ | with_reducible refine Gr.trans ?_ (by assumption))); done))
          (first
            | (go_at_call 36; refine (HE.out _).mono ?_; rintro e' w6 ⟨rfl, rfl⟩)
            | (go_at_call 37; refine (HP.out _ _ (HA.out.gr (by ((repeat (first | with_reducible exact Gr.refl _ | with_reducible assumption | with_reducible refine Gr.drew ?_ | with_reducible refine Gr.alloc ?_ _ | with_reducible refine Gr.trans ?_ (by assumption))); done)))).mono ?_; rintro e' w7 ⟨rfl, g5⟩))
        go_wp2_with fail
        go_returns
        exact ⟨by rw [e.out.1, e.out.2.1, e.out.2.2]; rfl, Gr.trans hgw (by ((repeat (first | with_reducible exact Gr.refl _ | with_reducible assumption | with_reducible refine Gr.drew ?_ | with_reducible refine Gr.alloc ?_ _ | with_reducible refine Gr.trans ?_ (by assumption))); done))⟩
  · have e := Lib.hid (re_ck (n := n) hc)
    generalize hcc : ckFade F T S Dl Tm k l = cc at *
    have hb : (cc != 0) = true := by simpa using hc
    have HC := Lib.hid HC
    clear h hc hcc
    go_enter Tryd.func10, Tryd.ntmps10
    go_wp2_with fail
    refine (HC.out _ (((Gr.refl w).alloc _).alloc _)).mono ?_
    rintro e' w1 ⟨rfl, g1⟩
    go_wp2_with fail
    go_returns
    exact ⟨by rw [e.out.1, e.out.2.1, e.out.2.2]; rfl, (((Gr.refl w).alloc _).alloc _).trans g1⟩
end Go.Proofs.YtfeeolfekfkdiaaDoor
