/- Emitters of both: the errors of Drive, equal slices of ints, what Given and Drive say. -/
import Derived.Test.YtdmpdcggepfaiaaDoorDrvR
namespace Go.Proofs.YtdmpdcggepfaiaaDoor
open Go.RowKit Go.Sort

set_option maxRecDepth 100000 in
set_option maxHeartbeats 3200000 in
theorem drive_errR (v : Value) (L : List Em) (r g bb : Int) (w : World) (hv : EmVal w v L) (hf : Fits v) (hok : EmsOk L) (h : ckAll L ≠ 0) :
    Calls Tryd.prog 27 #[v, .agg #[.int .i64 r, .int .i64 g, .int .i64 bb]] w fun e w' => e = .returned (.tuple #[.slice none 0 0, .agg #[.int .i64 0, .int .i64 0, .int .i64 0], .int .i64 (ckAll L)]) ∧ Bl w w' := by
  have HE := Lib.hid (fun w' (m : Bl w w') => checkEms_ref v L w' (hv.bl m) hf hok)
  have t1 : (ckAll L != 0) = true := by simpa using h
  obtain ⟨o, cap, rfl, _, _⟩ := hv
  generalize ckAll L = X at *
  clear h hok hf
  have hW : Bl w ((w.alloc (.cells #[.int .i64 r, .int .i64 g, .int .i64 bb] 23)).alloc (.cells #[.int .i64 0, .int .i64 0, .int .i64 0] 23)) := ((Bl.refl w).alloc _).alloc _
  go_enter Tryd.func27, Tryd.ntmps27
  go_wp2_with fail
  refine (HE.out _ hW).mono ?_
  rintro e w1 ⟨rfl, m1⟩
  obtain ⟨⟨k0, k1, k2⟩, f0, f1, f2⟩ := own3b (n := w.heap.size + 1) (by simp) m1
  go_wp2_with fail
  refine bodyPost_ret (v := .tuple #[.slice none 0 0, .agg #[.int .i64 0, .int .i64 0, .int .i64 0], .int .i64 X]) ?_ rfl ⟨rfl, set3b (by omega) (hW.trans m1) _ _ _⟩
  simp [results, Tryd.results27, go_sem, k0, k1, k2]

set_option maxRecDepth 100000 in
set_option maxHeartbeats 3200000 in
theorem drive_colR (v : Value) (L : List Em) (r g bb : Int) (w : World) (hv : EmVal w v L) (hf : Fits v) (hok : EmsOk L) (h : ckAll L = 0) (hc : isCol r g bb = false) :
    Calls Tryd.prog 27 #[v, .agg #[.int .i64 r, .int .i64 g, .int .i64 bb]] w fun e w' => e = .returned (.tuple #[.slice none 0 0, .agg #[.int .i64 0, .int .i64 0, .int .i64 0], .int .i64 1]) ∧ Bl w w' := by
  have HE := Lib.hid (fun w' (m : Bl w w') => checkEms_ref v L w' (hv.bl m) hf hok)
  rw [h] at HE
  have HC := Lib.hid (fun w' => (show Calls Tryd.prog 31 #[.agg #[.int .i64 r, .int .i64 g, .int .i64 bb]] w' fun e w'' => e = .returned (.int .i64 1) ∧ Bl w' w'' from by
    have := check_ref3 r g bb w'; unfold ckCol at this; rw [hc] at this; exact this))
  obtain ⟨o, cap, rfl, _, _⟩ := hv
  clear h hok hf hc
  have hW : Bl w ((w.alloc (.cells #[.int .i64 r, .int .i64 g, .int .i64 bb] 23)).alloc (.cells #[.int .i64 0, .int .i64 0, .int .i64 0] 23)) := ((Bl.refl w).alloc _).alloc _
  go_enter Tryd.func27, Tryd.ntmps27
  go_wp2_with fail
  refine (HE.out _ hW).mono ?_
  rintro e w1 ⟨rfl, m1⟩
  obtain ⟨a1, a2, a3⟩ := (own3b (n := w.heap.size) rfl (((Bl.refl (w.alloc (.cells #[.int .i64 r, .int .i64 g, .int .i64 bb] 23))).alloc _).trans m1)).1
  go_wp2_with fail
  refine (HC.out _).mono ?_
  rintro e w2 ⟨rfl, m2⟩
  obtain ⟨⟨k0, k1, k2⟩, f0, f1, f2⟩ := own3b (n := w.heap.size + 1) (by simp) (m1.trans m2)
  go_wp2_with fail
  refine bodyPost_ret (v := .tuple #[.slice none 0 0, .agg #[.int .i64 0, .int .i64 0, .int .i64 0], .int .i64 1]) ?_ rfl ⟨rfl, set3b (by omega) (hW.trans (m1.trans m2)) _ _ _⟩
  simp [results, Tryd.results27, go_sem, k0, k1, k2]

set_option maxRecDepth 100000 in
set_option maxHeartbeats 3200000 in
/-- Equal of two slices of the same ints. -/
theorem equal_ints (va vb : Value) (xs : List Int) (w : World) (ha : Slc w va xs) (hb : Slc w vb xs) :
    Calls Tryd.prog 28 #[va, vb] w fun e w' => e = .returned (.bool true) ∧ Bl w w' := by
  obtain ⟨oa, ca, rfl, ⟨la, la'⟩, ha⟩ := ha
  obtain ⟨ob, cb, rfl, ⟨lb, lb'⟩, hb⟩ := hb
  have HA := Lib.hid ha
  have HB := Lib.hid hb
  have t1 : ((xs.length : Int) != (xs.length : Int)) = false := by simp
  have mixed : Tryd.prog.follows .mixedOrders = true := by kernel_rfl
  clear ha hb
  go_enter Tryd.func28, Tryd.ntmps28
  go_wp2
  go_loopw [13] (fun i wr => ∃ k : Nat, k ≤ xs.length ∧ i = .int .i64 k ∧ Bl w wr) (fun i _ => xs.length - (intOf i).toNat)
  case atStart => exact ⟨0, Nat.zero_le _, rfl, Bl.refl w⟩
  case round =>
    obtain ⟨k, hk, rfl, hg⟩ := hrel
    by_cases hlt : k < xs.length
    · obtain ⟨b1, o1, rfl, h1⟩ := HA.out k hlt
      obtain ⟨b2, o2, rfl, h2⟩ := HB.out k hlt
      have c1 := hg.cell h1
      have c2 := hg.cell h2
      generalize xs[k]?.getD 0 = x at *
      have t2 : (x != x) = false := by simp
      clear h1 h2
      go_wp2
      go_quiet (fail)
      go_wp2
      go_roundw
      case rel => exact ⟨k + 1, by omega, by go_num, hg.drewN _⟩
      case measure => simp [intOf]; omega
    · go_wp2
      go_returns
      exact ⟨rfl, hg⟩

/-- Given of both says the same. -/
theorem given_both (v vl : Value) (L : List Em) (xs : List Int) (w : World) (hv : EmVal w v L) (hl : LvVal w vl xs) (hf : Fits v) (hok : EmsOk L) :
    ∃ a b c X : Int, (∀ w', Bl w w' → Calls Tryd.prog 22 #[v, vl] w' fun e w'' => e = .returned (.tuple #[.agg #[.int .i64 a, .int .i64 b, .int .i64 c], .int .i64 X]) ∧ Bl w' w'') ∧
      (∀ w', Bl w w' → Calls Tryd.prog 23 #[v, vl] w' fun e w'' => e = .returned (.tuple #[.agg #[.int .i64 a, .int .i64 b, .int .i64 c], .int .i64 X]) ∧ Bl w' w'') := by
  by_cases h : ckAll L = 0
  · by_cases hne : xs.length = L.length
    · by_cases hx : xs.all isLev = true
      · refine ⟨gvC Em.r L (fun i => xs[i]?.getD 0), gvC Em.g L (fun i => xs[i]?.getD 0), gvC Em.b L (fun i => xs[i]?.getD 0), 0, fun w' m => ?_, fun w' m => ?_⟩
        · have := given_lv v vl L xs w' (hv.bl m) (hl.bl m) hok h hne; rw [if_pos hx] at this; exact this
        · have := given_lvR v vl L xs w' (hv.bl m) (hl.bl m) hf hok h hne; rw [if_pos hx] at this; exact this
      · refine ⟨0, 0, 0, 1, fun w' m => ?_, fun w' m => ?_⟩
        · have := given_lv v vl L xs w' (hv.bl m) (hl.bl m) hok h hne; rw [if_neg hx] at this; exact this
        · have := given_lvR v vl L xs w' (hv.bl m) (hl.bl m) hf hok h hne; rw [if_neg hx] at this; exact this
    · exact ⟨_, _, _, _, fun w' m => given_len v vl L xs w' (hv.bl m) (hl.bl m) hok h hne, fun w' m => given_lenR v vl L xs w' (hv.bl m) (hl.bl m) hf hok h hne⟩
  · exact ⟨_, _, _, _, fun w' m => given_err v vl L xs w' (hv.bl m) (hl.bl m) hok _ rfl h, fun w' m => given_errR v vl L xs w' (hv.bl m) (hl.bl m) hf hok _ rfl h⟩

/-- Drive of both says the same. -/
theorem drive_both (v : Value) (L : List Em) (r g b : Int) (w : World) (hv : EmVal w v L) (hf : Fits v) (hok : EmsOk L) :
    ∃ (ls : List Int) (x y z X : Int), (∀ w', Bl w w' → Calls Tryd.prog 26 #[v, .agg #[.int .i64 r, .int .i64 g, .int .i64 b]] w' fun e w'' => ∃ u, e = .returned (.tuple #[u, .agg #[.int .i64 x, .int .i64 y, .int .i64 z], .int .i64 X]) ∧ Slc w'' u ls ∧ Bl w' w'') ∧
      (∀ w', Bl w w' → Calls Tryd.prog 27 #[v, .agg #[.int .i64 r, .int .i64 g, .int .i64 b]] w' fun e w'' => ∃ u, e = .returned (.tuple #[u, .agg #[.int .i64 x, .int .i64 y, .int .i64 z], .int .i64 X]) ∧ Slc w'' u ls ∧ Bl w' w'') := by
  by_cases h : ckAll L = 0
  · cases hc : isCol r g b with
    | true =>
      obtain ⟨h0, h12, hlv0⟩ := ckAll_ok h
      have hv' := hv
      obtain ⟨o, cap, rfl, _, hp⟩ := hv
      obtain ⟨bb, off, rfl, hL⟩ := hp h0
      refine ⟨dList (r, g, b) L L.length, _, _, _, _, fun w' m => ?_, fun w' m => drive_okR bb off cap L r g b w' (hf _ _ _ rfl) (hL.bl m) hok h hc⟩
      refine (drive_ok bb off cap L r g b w' (hL.bl m) hok h hc).mono ?_
      rintro e w'' ⟨gl, rfl, hcl, hb⟩
      refine ⟨_, rfl, ?_, hb⟩
      have := Slc.mk (w := w'') (b := gl) (off := 0) (cap := L.length) (xs := dList (r, g, b) L L.length) (by rw [dList_len]; exact Nat.le_refl _) (by omega) (fun i hi => by
        rw [dList_len] at hi; rw [Nat.zero_add, hcl i hi]; simp [dList, hi])
      rwa [dList_len] at this
    | false =>
      exact ⟨[], _, _, _, _, fun w' m => (drive_col v L r g b w' (hv.bl m) hok h hc).mono fun e w'' ⟨he, hb⟩ => ⟨_, he, slc_nil _ _ _ (by omega), hb⟩, fun w' m => (drive_colR v L r g b w' (hv.bl m) hf hok h hc).mono fun e w'' ⟨he, hb⟩ => ⟨_, he, slc_nil _ _ _ (by omega), hb⟩⟩
  · exact ⟨[], _, _, _, _, fun w' m => (drive_err v L r g b w' (hv.bl m) hok h).mono fun e w'' ⟨he, hb⟩ => ⟨_, he, slc_nil _ _ _ (by omega), hb⟩, fun w' m => (drive_errR v L r g b w' (hv.bl m) hf hok h).mono fun e w'' ⟨he, hb⟩ => ⟨_, he, slc_nil _ _ _ (by omega), hb⟩⟩
end Go.Proofs.YtdmpdcggepfaiaaDoor
