/- levels of the program: the levels of n units along a fan. -/
import Derived.Test.YtgpblgalklegkaaCkFanP
import Derived.Test.YtgpblgalklegkaaSprP
namespace Go.Proofs.Ytgpblgalklegkaa
open Go.RowKit Go.Sort

set_option maxHeartbeats 800000 in
theorem up_any (a b : Int) (w : World) (h0 : 0 ≤ a) (h1 : a ≤ 20000) (h2 : 1 ≤ b) (h3 : b ≤ 20000) :
    Calls Try.prog 23 #[.int .i64 a, .int .i64 b] w fun e w' => e = .returned (.int .i64 (upq a b)) ∧ w = w' := by
  have e : Hid (upq a b = (a + b - 1) / b) := Lib.hid rfl
  have z1 : IntKind.i64.wrap (a + b) = a + b := IntWalk.i64_in _ (by omega)
  have z2 : IntKind.i64.wrap (a + b - 1) = a + b - 1 := IntWalk.i64_in _ (by omega)
  have zn : ¬ b = 0 := by omega
  have hle := Int.ediv_le_self b (show 0 ≤ a + b - 1 by omega)
  have hge := Int.ediv_nonneg (show 0 ≤ a + b - 1 by omega) (show 0 ≤ b by omega)
  have hq : IntKind.i64.wrap ((a + b - 1).tdiv b) = (a + b - 1) / b := IntWalk.i64_quo _ _ (by omega)
  go_enter Try.func23, Try.ntmps23
  go_wp2
  go_ret
  exact ⟨by rw [e.out]; rfl, rfl⟩

/-- Where the loop stands. -/
def FanRel (W : World) (g : Nat) (l : List Int) (B Wn : Int) (N : Nat) (v : Value) (wr : World) : Prop := ∃ (i : Nat) (ds : List Int), v = .int .i64 i ∧ i ≤ N ∧ ds.length = N ∧ Own W wr g N ds ∧ (∀ j, j < i → ds[j]?.getD 0 = fanAt l B Wn N j) ∧ Bl W wr
theorem fan_set {l ds : List Int} {B Wn n : Int} {i : Nat} {x : Int} (h : ∀ j, j < i → ds[j]?.getD 0 = fanAt l B Wn n j) (hx : fanAt l B Wn n i = x) (hi : i < ds.length) : ∀ j, j < i + 1 → (ds.set i x)[j]?.getD 0 = fanAt l B Wn n j := by
  intro j hj
  by_cases e : j = i
  · subst e
    rw [List.getElem?_set_self hi, hx]; rfl
  · rw [List.getElem?_set_ne (Ne.symm e)]
    exact h j (by omega)

set_option maxRecDepth 100000 in
set_option maxHeartbeats 3200000 in
theorem fan_levels (sv : Value) (l : List Int) (B Wn : Int) (N : Nat) (w : World) (h : Slc w sv l) (hg : fanX l B Wn = 0) (hN : N ≤ 400) :
    Calls Try.prog 15 #[.agg #[sv, .int .i64 B, .int .i64 Wn], .int .i64 N] w fun e w' => ∃ v, e = .returned v ∧ Slc w' v (fanL l B Wn N) ∧ Bl w w' := by
  obtain ⟨⟨hl1, hl2, hall⟩, ⟨hB1, hB2⟩, hW1, hW2⟩ := fan_good hg
  obtain ⟨u0, u1, _⟩ := up_bd (a := (N : Int)) (by omega) hB1
  obtain ⟨s0, s1, s2⟩ := fanS_bd (n := (N : Int)) hB1 hW1 (by omega)
  have HU1 := Lib.hid (fun w' => up_any N B w' (by omega) (by omega) hB1 (by omega))
  have HU2 := Lib.hid (fun w' => up_any (upq N B) Wn w' u0 (by omega) hW1 (by omega))
  obtain ⟨S, hS⟩ : ∃ S : Nat, fanS B Wn N = S := ⟨(fanS B Wn N).toNat, by omega⟩
  have hS' : upq (upq N B) Wn = (S : Int) := hS
  rw [hS'] at HU2
  rw [hS] at s0 s1 s2
  have HSp := Lib.hid (fun w' (m : Bl w w') => spread_prog sv l S w' (h.bl m))
  have eS := Lib.hid (sp_good (l := l) (n := (S : Int)) (by omega) hall hl1 (by omega) (by omega))
  have HF := Lib.hid (fun (i : Nat) => show fanAt l B Wn N i = spAt l S (fanK B S i) from by unfold fanAt; rw [hS])
  have HBD := Lib.hid (fun (i : Nat) (hs : 1 ≤ (S : Int)) => fanK_bd (B := B) (s := (S : Int)) (i := (i : Int)) hB1 hs (by omega))
  unfold PSpr at HSp
  have HS := Lib.hid h
  clear hg hall hS hS' u0 u1 h
  obtain ⟨o, cap, rfl, _⟩ := HS.out
  obtain ⟨i0, hi, hz0, hz1, hz2⟩ := info_parts info_i
  obtain ⟨W0, hW0⟩ : ∃ W0, W0 = w.alloc (.cells #[.slice o l.length cap, .int .i64 B, .int .i64 Wn] 24) := ⟨_, rfl⟩
  have bW : Bl w W0 := by rw [hW0]; exact (Bl.refl w).alloc _
  have KK := Lib.hid (fun w' (m : Bl W0 w') => show w'.cell? ⟨w.heap.size, 1, none⟩ = some (.int .i64 B) ∧ w'.cell? ⟨w.heap.size, 2, none⟩ = some (.int .i64 Wn) from ⟨m.cell (by rw [hW0]; simp), m.cell (by rw [hW0]; simp)⟩)
  have k0 : W0.cell? ⟨w.heap.size, 0, none⟩ = some (.slice o l.length cap) := by rw [hW0]; simp
  obtain ⟨k1, k2⟩ := KK.out _ (Bl.refl _)
  have cw1 := k1
  have cw2 := k2
  go_enter Try.func15, Try.ntmps15
  go_wp2_with fail
  rw [← hW0]
  clear hW0
  go_region_held3 (fun w' => w'.cell? ⟨w.heap.size, 1, none⟩ = some (.int .i64 B) ∧ w'.cell? ⟨w.heap.size, 2, none⟩ = some (.int .i64 Wn))
    (refine ⟨Bl.cell (w := W0) ?_ cw1, Bl.cell (w := W0) ?_ cw2⟩ <;> ((repeat (first | with_reducible exact Bl.refl _ | with_reducible assumption | with_reducible refine Bl.drew ?_ | with_reducible refine Bl.alloc ?_ _ | with_reducible refine Bl.trans ?_ (by assumption))); done))
    (first
      | (go_at_call 23; (with_reducible refine (HU1.out _).mono ?_); rintro e' w6 ⟨rfl, rfl⟩)
      | (go_at_call 23; (with_reducible refine (HU2.out _).mono ?_); rintro e' w7 ⟨rfl, rfl⟩))
  go_wp2_with fail
  have bd : Bl W0 W0.drew := by ((repeat (first | with_reducible exact Bl.refl _ | with_reducible assumption | with_reducible refine Bl.drew ?_ | with_reducible refine Bl.alloc ?_ _ | with_reducible refine Bl.trans ?_ (by assumption))); done)
  refine (HSp.out _ (bW.trans bd)).mono ?_
  rintro e' w2 ⟨va, rfl, hva, m2⟩
  rw [eS.out.2] at hva
  have b02 : Bl W0 w2 := bd.trans m2
  have bw2 : Bl w w2 := bW.trans b02
  have HVA := Lib.hid hva
  clear hva k0 k1 k2 cw1 cw2 HU1 HU2 HSp
  obtain ⟨k1, k2⟩ := KK.out _ b02
  have hzw : w.heap.size < w2.heap.size := World.block_lt_of_cell? _ _ k1
  go_wp2_with (at_make; refine wpList_make_full _ rfl _ _ 22 rfl w2.heap.size 3 i0 (.int .i64 0) 1 Try.underlying22 hi hz0 hz1 _ _ _ _ N rfl rfl rfl rfl (by rw [hz2]; omega) (by unfold maxLen; omega) (Nat.le_refl _) ?_; intro w3 hown3 hg3)
  have b23 : Bl w2 w3 := (Bl.refl _).grown hg3 (fun k hk => by cases hk)
  have HO := Lib.hid (own_made hown3)
  clear hown3 hg3 hi hz0 hz1 hz2 k1 k2
  obtain ⟨g, hg⟩ : ∃ g, g = w2.heap.size := ⟨_, rfl⟩
  rw [← hg] at HO
  rw [← hg]
  clear hg
  go_loopw [30] (fun v30 wr => FanRel w2 g l B Wn N v30 wr) (fun v30 _ => N - (intOf v30).toNat)
  case atStart => exact ⟨0, List.replicate N 0, rfl, Nat.zero_le _, by simp, HO.out, fun j hj => absurd hj (Nat.not_lt_zero _), b23⟩
  case round =>
    obtain ⟨i, ds, rfl, hi, hl, hown, hj, hb⟩ := hrel
    by_cases hlt : i < N
    · have hS1 : 1 ≤ (S : Int) := s2 (by omega)
      obtain ⟨⟨q0, q1⟩, ⟨p0, p1⟩, ⟨r0, r1⟩, hpar, f0, f1⟩ := HBD.out i hS1
      have HX := Lib.hid (And.intro hl (And.intro hown (And.intro hj hb)))
      have hcell := hown.cell i (by omega)
      have hfree := hown.free i
      clear hl hown hj
      obtain ⟨k1, k2⟩ := KK.out _ (b02.trans hb)
      have zB : ¬ B = 0 := by omega
      have zS : ¬ (S : Int) = 0 := by omega
      have z1 : (0 : Int) ≤ (i : Int) := by omega
      have z2 : (i : Int) < (N : Int) := by omega
      obtain ⟨o2, cap2, hva, ⟨hv1, hv2⟩, hvc⟩ := HVA.out
      have hSl : (spL l (S : Int)).length = S := by rw [spL_len]; exact Int.toNat_natCast S
      rw [hSl] at hv1 hvc hva
      subst hva
      obtain ⟨b2, off2, rfl, _⟩ := hvc 0 (by omega)
      obtain ⟨c, hc⟩ : ∃ c : Nat, fanK B S i = c := ⟨(fanK B S i).toNat, by omega⟩
      obtain ⟨x, hx⟩ : ∃ x, (spL l (S : Int))[c]?.getD 0 = x := ⟨_, rfl⟩
      have cx : w2.cell? ⟨b2, off2 + c, none⟩ = some (.int .i64 x) := by
        obtain ⟨b', off', e', h'⟩ := hvc c (by omega)
        cases e'
        rw [h', hx]
      have HXA : Hid (fanAt l B Wn N i = x) := by
        show _ = _
        rw [HF.out, hc, ← spL_get l S c (by omega), hx]
      have cx := hb.cell cx
      obtain ⟨r, hr⟩ : ∃ r : Nat, (i : Int) / B % S = r := ⟨((i : Int) / B % S).toNat, by omega⟩
      rw [hr] at r0 r1
      have hcS : (c : Int) < S := by omega
      have hcS' : c < S := by omega
      have hgz := HX.out.2.1.base.2
      clear hvc hx hSl
      rcases hpar with hp | hp
      · have hrc : r = c := by unfold fanK at hc; rw [if_neg (by omega), hr] at hc; omega
        subst hrc
        have t5 : ((i : Int) / B / S % 2 == 1) = false := by rw [hp]; decide
        clear hp hc f0 f1
        go_wp2_with fail
        go_quiet (fail)
        rw [hr]
        have cx : (wr.drewN nq).cell? ⟨b2, off2 + r, none⟩ = some (.int .i64 x) := cx
        have hcell : (wr.drewN nq).cell? ⟨g, i, none⟩ = _ := hcell
        have hfree : (wr.drewN nq).frozen? ⟨g, i, none⟩ = false := hfree
        have HY : Hid (Own w2 (wr.drewN nq) g N ds) := HX.out.2.1.drewN nq
        have hbq : Bl w2 (wr.drewN nq) := hb.drewN nq
        generalize wr.drewN nq = wq at *
        go_wp2_with fail
        go_roundw
        case rel => exact ⟨i + 1, ds.set i x, by go_num, by omega, by simp [HX.out.1], HY.out.set _ _, fan_set HX.out.2.2.1 HXA.out (by rw [HX.out.1]; exact hlt), HY.out.bl hbq _ _⟩
        case measure => simp [intOf]; omega
      · have hrc : (S : Int) - 1 - r = c := by unfold fanK at hc; rw [if_pos hp, hr] at hc; exact hc
        have t5 : ((i : Int) / B / S % 2 == 1) = true := by rw [hp]; decide
        have zc : IntKind.i64.wrap ((S : Int) - 1 - (r : Int)) = (c : Int) := by rw [hrc]; exact IntWalk.i64_in _ (by omega)
        clear hp hc f0 f1 hrc
        go_wp2_with fail
        go_quiet (fail)
        rw [hr]
        have cx : (wr.drewN nq).cell? ⟨b2, off2 + c, none⟩ = some (.int .i64 x) := cx
        have hcell : (wr.drewN nq).cell? ⟨g, i, none⟩ = _ := hcell
        have hfree : (wr.drewN nq).frozen? ⟨g, i, none⟩ = false := hfree
        have HY : Hid (Own w2 (wr.drewN nq) g N ds) := HX.out.2.1.drewN nq
        have hbq : Bl w2 (wr.drewN nq) := hb.drewN nq
        generalize wr.drewN nq = wq at *
        go_wp2_with fail
        go_roundw
        case rel => exact ⟨i + 1, ds.set i x, by go_num, by omega, by simp [HX.out.1], HY.out.set _ _, fan_set HX.out.2.2.1 HXA.out (by rw [HX.out.1]; exact hlt), HY.out.bl hbq _ _⟩
        case measure => simp [intOf]; omega
    · obtain rfl : i = N := by omega
      have HR := Lib.hid (fanL_eq (l := l) (B := B) (W := Wn) (n := (i : Int)) (ds := ds) (by rw [hl]; exact (Int.toNat_natCast i).symm) (fun j hj' => hj j (by omega)))
      have HSL := Lib.hid hown.slc
      clear hown hj
      go_wp2_with fail
      go_returns
      exact ⟨_, rfl, by rw [← HR.out]; rw [hl] at *; exact HSL.out, bw2.trans hb⟩
end Go.Proofs.Ytgpblgalklegkaa
