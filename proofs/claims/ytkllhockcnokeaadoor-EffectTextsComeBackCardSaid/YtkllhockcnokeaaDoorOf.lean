/- Fractions of package level: share, of, and the closure that 'of' searches with. -/
import Derived.Test.YtkllhockcnokeaaDoorWide
import Derived.Test.YtkllhockcnokeaaDoorComp
import Derived.Shelf.SlSortCmp.QuietGrown
import Derived.Lib.Hide
import Derived.Deep.RegionHeld3
import Derived.Deep.DeepCutAuto
namespace Go.Proofs.YtkllhockcnokeaaDoor
open Go.RowKit Go.Sort

/-- A call that gives a fraction. -/
def PRa (N D : Int) (w : World) (e : Ending) (w' : World) : Prop := ∃ nh nl dh dl : Int, e = .returned (.agg #[.int .u64 nh, .int .u64 nl, .int .u64 dh, .int .u64 dl]) ∧ (Wd nh nl N ∧ Wd dh dl D) ∧ Gr w w'

set_option maxHeartbeats 400000 in
theorem share_any (a b : Int) (w : World) (ha : 0 ≤ a) (ha' : a ≤ 9223372036854775807) (hb : 0 ≤ b) (hb' : b ≤ 9223372036854775807) :
    Calls Tryd.prog 45 #[.int .i64 a, .int .i64 b] w (PRa a b w) := by
  go_enter Tryd.func45, Tryd.ntmps45
  go_wp2_with fail
  refine (product_any a 1 _ ha ha' (by omega) (by omega)).mono ?_
  rintro e w1 ⟨h, l, rfl, H, rfl⟩
  go_wp2_with fail
  refine (product_any b 1 _ hb hb' (by omega) (by omega)).mono ?_
  rintro e w2 ⟨h', l', rfl, H', rfl⟩
  go_wp2_with fail
  go_returns
  rw [Int.mul_one] at H H'
  exact ⟨_, _, _, _, rfl, ⟨H, H'⟩, (((Gr.refl w).alloc _).alloc _).alloc _⟩

/-- The bounds of a fraction that 'of' can take. -/
def RaOk (N D : Int) : Prop := 0 ≤ N ∧ N ≤ D ∧ 0 < D ∧ D ≤ 1267650600228229401496703205376

set_option maxHeartbeats 400000 in
theorem of_closure (bd br : Nat) (xh xl dh dl X D : Int) (i : Nat) (w : World) (HX : Wd xh xl X) (HD : Wd dh dl D) (hD0 : 0 ≤ D) (hD : D ≤ 1267650600228229401496703205376) (hi : (i : Int) ≤ 65536)
    (c0 : w.cell? ⟨bd, 0, none⟩ = some (.int .u64 xh)) (c1 : w.cell? ⟨bd, 1, none⟩ = some (.int .u64 xl)) (c2 : w.cell? ⟨br, 2, none⟩ = some (.int .u64 dh)) (c3 : w.cell? ⟨br, 3, none⟩ = some (.int .u64 dl)) :
    Calls Tryd.prog 62 (#[.int .i64 i] ++ #[.pointer (some ⟨bd, 0, none⟩), .pointer (some ⟨br, 0, none⟩)]) w fun e w' => e = .returned (.bool (decide (X < D * (2 * i)))) ∧ Gr w w' := by
  have g0 := cell_grown (World.block_lt_of_cell? _ _ c0) c0
  have g1 := cell_grown (World.block_lt_of_cell? _ _ c1) c1
  have g2 := cell_grown (World.block_lt_of_cell? _ _ c2) c2
  have g3 := cell_grown (World.block_lt_of_cell? _ _ c3) c3
  have hV : D * (2 * (i : Int)) ≤ 340282366920938463463374607431768211455 := by
    have h1 := Int.mul_le_mul_of_nonneg_left (show 2 * (i : Int) ≤ 131072 by omega) hD0
    omega
  have hV0 : 0 ≤ D * (2 * (i : Int)) := Int.mul_nonneg hD0 (by omega)
  have HV := wd_of hV0 hV
  have t1 := fun w => times_v dh dl D (2 * (i : Int)) w HD (by omega) (by omega) hV
  have t2 := fun w => less_v xh xl X _ _ _ w HX HV
  clear c0 c1 c2 c3
  have T1 := Lib.hid t1
  have T2 := Lib.hid t2
  clear t1 t2
  clear hV hV0 HV HX HD hD hD0
  have mixed : Tryd.prog.follows .mixedOrders = true := by kernel_rfl
  have hwr : IntKind.i64.wrap (2 * (i : Int)) = 2 * (i : Int) := IntWalk.i64_in _ (by omega)
  go_enter Tryd.func62, Tryd.ntmps62
  go_wp2_with fail
  go_quiet_grown (first | (go_at_call 59; exact grown_of (T1.out _)) | (go_at_call 63; exact grown_of (T2.out _)))
  go_wp2
  go_returns
  exact ⟨rfl, ((Gr.refl w).drewN _).grown _⟩

theorem own2 {w : World} {k : Nat} {a b : Value} {t : TypeId} (h : k = w.heap.size) :
    (w.alloc (.cells #[a, b] t)).cell? ⟨k, 0, none⟩ = some a ∧ (w.alloc (.cells #[a, b] t)).cell? ⟨k, 1, none⟩ = some b := by
  subst h; exact ⟨by simp, by simp⟩
theorem own4 {w W : World} {a b c d : Value} {t : TypeId} (h : Gr (w.alloc (.cells #[a, b, c, d] t)) W) :
    W.cell? ⟨w.heap.size, 0, none⟩ = some a ∧ W.cell? ⟨w.heap.size, 1, none⟩ = some b ∧ W.cell? ⟨w.heap.size, 2, none⟩ = some c ∧ W.cell? ⟨w.heap.size, 3, none⟩ = some d :=
  ⟨h.cell (by simp), h.cell (by simp), h.cell (by simp), h.cell (by simp)⟩

/-- Where the search of 'of' begins: what it searches for and what it counts with. -/
def OfRel (w : World) (dh dl X : Int) (s5 : Value) (wx : World) : Prop := ∃ (bd : Nat) (xh xl : Int), s5 = .pointer (some ⟨bd, 0, none⟩) ∧ Wd xh xl X ∧ Gr w wx ∧
  wx.cell? ⟨bd, 0, none⟩ = some (.int .u64 xh) ∧ wx.cell? ⟨bd, 1, none⟩ = some (.int .u64 xl) ∧ wx.cell? ⟨w.heap.size, 2, none⟩ = some (.int .u64 dh) ∧ wx.cell? ⟨w.heap.size, 3, none⟩ = some (.int .u64 dl)

set_option maxHeartbeats 1600000 in
theorem of_any (nh nl dh dl N D s : Int) (w : World) (HN : Wd nh nl N) (HD : Wd dh dl D) (hR : RaOk N D) (h0 : 0 ≤ s) (h1 : s ≤ 65535) :
    Calls Tryd.prog 46 #[.agg #[.int .u64 nh, .int .u64 nl, .int .u64 dh, .int .u64 dl], .int .i64 s] w fun e w' => e = .returned (.int .i64 (rnd N D s)) ∧ Gr w w' := by
  obtain ⟨r1, r2, r3, r4⟩ := hR
  have q1 : N * (2 * s) ≤ 166153499473114484112975882535043072 := by
    have a1 := Int.mul_le_mul_of_nonneg_left (show 2 * s ≤ 131070 by omega) r1
    omega
  have t1 := fun w => times_any nh nl N (2 * s) w HN (by omega) (by omega) (by omega)
  have t2 := fun xh xl w HX => plus_any xh xl (N * (2 * s)) dh dl D w HX HD (by omega)
  have T1 := Lib.hid t1
  have T2 := Lib.hid t2
  clear t1 t2 q1
  have hwr : IntKind.i64.wrap (2 * s) = 2 * s := IntWalk.i64_in _ (by omega)
  have R : Hid (0 ≤ N ∧ N ≤ D ∧ 0 < D ∧ D ≤ 1267650600228229401496703205376) := ⟨r1, r2, r3, r4⟩
  have HD' := Lib.hid HD
  have HN' := Lib.hid HN
  clear r1 r2 r3 r4 HD HN
  go_enter Tryd.func46, Tryd.ntmps46
  go_upto_region 1 with fail
  go_cut [5] (fun s5 wx => OfRel w dh dl (N * (2 * s) + D) s5 wx)
  case first =>
    go_region_held3 (fun w' => w'.cell? ⟨w.heap.size, 0, none⟩ = some (.int .u64 nh) ∧ w'.cell? ⟨w.heap.size, 1, none⟩ = some (.int .u64 nl) ∧ w'.cell? ⟨w.heap.size, 2, none⟩ = some (.int .u64 dh) ∧ w'.cell? ⟨w.heap.size, 3, none⟩ = some (.int .u64 dl)) (exact own4 (by repeat (first | with_reducible exact Gr.refl _ | with_reducible refine Gr.drew ?_ | with_reducible refine Gr.alloc ?_ _)))
      (first
        | (go_at_call 59; refine (T1.out _).mono ?_; rintro e w' ⟨xh, xl, rfl, HX, rfl⟩)
        | (go_at_call 60; refine (T2.out xh xl _ HX).mono ?_; rintro e w' ⟨yh, yl, rfl, HY, rfl⟩))
    all_goals (go_wp2_with fail; go_meet)
    all_goals refine ⟨_, yh, yl, rfl, HY, by repeat (first | with_reducible exact Gr.refl _ | with_reducible refine Gr.drew ?_ | with_reducible refine Gr.alloc ?_ _), ?_, ?_, ?_, ?_⟩
    all_goals first
      | (refine (own4 (a := .int .u64 nh) (b := .int .u64 nl) (c := .int .u64 dh) (d := .int .u64 dl) (t := 63) ?_).2.2.1; repeat (first | with_reducible exact Gr.refl _ | with_reducible refine Gr.drew ?_ | with_reducible refine Gr.alloc ?_ _))
      | (refine (own4 (a := .int .u64 nh) (b := .int .u64 nl) (c := .int .u64 dh) (d := .int .u64 dl) (t := 63) ?_).2.2.2; repeat (first | with_reducible exact Gr.refl _ | with_reducible refine Gr.drew ?_ | with_reducible refine Gr.alloc ?_ _))
      | (simp; done)
      | (rw [World.cell?_drew]; repeat (first | (refine (own2 ?_).1; simp; done) | (refine (own2 ?_).2; simp; done) | refine cell_alloc_sl _ ?_))
  case rest =>
    obtain ⟨bd, xh, xl, rfl, HX, hg, c0, c1, c2, c3⟩ := hcut
    have HS : Hid (Calls Tryd.prog 61 #[.int .i64 (s + 1), .func (.func 62) #[] #[.pointer (some ⟨bd, 0, none⟩), .pointer (some ⟨w.heap.size, 0, none⟩)]] wc fun e w' => e = .returned (.int .i64 (rnd N D s + 1)) ∧ Gr wc w') := by
      obtain ⟨r1, r2, r3, r4⟩ := R.out
      have k0 := rnd_nonneg r3 r1 h0
      have k1 := rnd_le r3 r2 h0
      have HD2 := HD'.out
      obtain ⟨n, rfl⟩ := Int.eq_ofNat_of_zero_le h0
      obtain ⟨k, hk⟩ := Int.eq_ofNat_of_zero_le k0
      have hp : ∀ t : Nat, decide (N * (2 * (n : Int)) + D < D * (2 * (t : Int))) = decide (k < t) := fun t => by
        have := rnd_search (n := N) (s := n) r3 (t : Int)
        rw [hk, show 2 * (n : Int) * N = N * (2 * n) by rw [Int.mul_comm]] at this
        exact decide_eq_decide.2 (by rw [this]; omega)
      have h := search 62 #[.pointer (some ⟨bd, 0, none⟩), .pointer (some ⟨w.heap.size, 0, none⟩)] (n + 1) (fun t => decide (k < t)) wc
        (enters_of Tryd.func62 (by kernel_rfl) rfl) (by omega)
        (fun w1 i hw1 hi => by
          have := of_closure bd w.heap.size xh xl dh dl (N * (2 * (n : Int)) + D) D i w1 HX HD2 (by omega) r4 (by omega) (hw1.cell c0) (hw1.cell c1) (hw1.cell c2) (hw1.cell c3)
          rwa [hp i] at this)
        (fun a b hab _ h => by simp at h ⊢; omega)
      rw [count_to _ (n + 1) (k + 1) (by omega) (fun t ht => by simp; omega) (fun t ht _ => by simp; omega)] at h
      rw [hk]
      exact h
    have hb : 0 ≤ rnd N D s ∧ rnd N D s ≤ s := by
      obtain ⟨r1, r2, r3, r4⟩ := R.out
      exact ⟨rnd_nonneg r3 r1 h0, rnd_le r3 r2 h0⟩
    obtain ⟨hb1, hb2⟩ := hb
    clear HX c0 c1 c2 c3 R HD' HN' T1 T2
    go_wp2_with (go_at_call 61; refine HS.out.mono ?_; rintro e w' ⟨rfl, hg2⟩)
    go_returns
    exact ⟨ret_int (by omega), hg.trans hg2⟩
end Go.Proofs.YtkllhockcnokeaaDoor
