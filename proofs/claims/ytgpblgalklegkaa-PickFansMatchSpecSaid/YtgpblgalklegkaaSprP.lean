/- Spread of the program. -/
import Derived.Test.YtgpblgalklegkaaBetween
import Derived.Test.YtgpblgalklegkaaSpM
import Derived.Test.YtgpblgalklegkaaNatT
namespace Go.Proofs.Ytgpblgalklegkaa
open Go.RowKit Go.Sort

/-- What Spread gives. -/
def PSpr (l : List Int) (n : Int) (w : World) (e : Ending) (w' : World) : Prop := ∃ v, e = .returned (.tuple #[v, .int .i64 (spX l n)]) ∧ Slc w' v (spR l n) ∧ Bl w w'
theorem sp_bad {l : List Int} {n c : Int} (h : spX l n = c) (hc : c ≠ 0) : spX l n = c ∧ spR l n = [] := ⟨h, by unfold spR; rw [if_neg (by omega)]⟩
theorem sp_good {l : List Int} {n : Int} (h1 : l.length ≤ 2000) (h2 : l.all isLev = true) (h3 : 1 ≤ l.length) (h4 : 0 ≤ n) (h5 : n ≤ 2000) : spX l n = 0 ∧ spR l n = spL l n := by
  have e : spX l n = 0 := by
    unfold spX
    rw [if_neg (by omega), if_neg (by rw [h2]; decide), if_neg (by omega), if_neg (by omega)]
  exact ⟨e, by unfold spR; rw [if_pos e]⟩

def SpRel (W : World) (g : Nat) (l : List Int) (n : Int) (v37 : Value) (wr : World) : Prop := ∃ (i : Nat) (ds : List Int), v37 = .int .i64 i ∧ i ≤ n.toNat ∧ ds.length = n.toNat ∧ Own W wr g n.toNat ds ∧ (∀ j, j < i → ds[j]?.getD 0 = spAt l n j) ∧ Bl W wr

theorem sp_set {l ds : List Int} {n : Int} {i : Nat} {x : Int} (h : ∀ j, j < i → ds[j]?.getD 0 = spAt l n j) (hx : spAt l n i = x) (hi : i < ds.length) : ∀ j, j < i + 1 → (ds.set i x)[j]?.getD 0 = spAt l n j := by
  intro j hj
  by_cases e : j = i
  · subst e
    rw [List.getElem?_set_self hi, hx]; rfl
  · rw [List.getElem?_set_ne (Ne.symm e)]
    exact h j (by omega)
theorem Bl.unfroz {w w' : World} (h : Bl w w') {p : Addr} (hp : p.block < w.heap.size) (hf : w.frozen? p = false) : w'.frozen? p = false := by rw [h.frozen hp]; exact hf
theorem Own.far {W w w' : World} {g cap : Nat} {ds : List Int} (h : Own W w g cap ds) (gb : Bl w w') : Own W w' g cap ds :=
  World.ownsRow.kept (row := none) h ⟨gb.os, gb.tape, gb.output, gb.size, fun k hk _ => gb.block k hk⟩ (by cases hv : Value.ownBlock _ <;> simp)

set_option maxRecDepth 100000 in
set_option maxHeartbeats 3200000 in
theorem spread_ok (v : Value) (l : List Int) (n : Int) (w : World) (h : Slc w v l) (h1 : l.length ≤ 2000) (h2 : l.all isLev = true) (h3 : 1 ≤ l.length) (h4 : 0 ≤ n) (h5 : n ≤ 2000) :
    Calls Try.prog 24 #[v, .int .i64 n] w (PSpr l n w) := by
  have e := Lib.hid (sp_good h1 h2 h3 h4 h5)
  have HA0 := fun w' (g : Bl w w') => areLevels_slc v l w' (h.bl g)
  rw [h2] at HA0
  have HA := Lib.hid HA0
  obtain ⟨o, cap, hv, ⟨hc1, hc2⟩, hcell⟩ := h
  obtain ⟨b, off, rfl, _⟩ := hcell 0 (by omega)
  have HC : Hid (∀ i, i < l.length → w.cell? ⟨b, off + i, none⟩ = some (.int .i64 (l[i]?.getD 0))) := fun i hi => by
    obtain ⟨b', off', e', hc⟩ := hcell i hi
    cases e'
    exact hc
  have HLV := Lib.hid (all_allLev h2)
  clear HA0 h2 hcell
  subst hv
  obtain ⟨i0, hi, hz0, hz1, hz2⟩ := info_parts info_i
  obtain ⟨N, hN⟩ : ∃ N : Nat, n = N := ⟨n.toNat, by omega⟩
  subst hN
  unfold PSpr
  go_enter Try.func24, Try.ntmps24
  go_wp2_with fail
  refine (HA.out _ (Bl.refl _)).mono ?_
  rintro e' w1 ⟨rfl, rfl⟩
  go_wp2_with (at_make; refine wpList_make_full _ rfl _ _ 22 rfl w.heap.size 3 i0 (.int .i64 0) 1 Try.underlying22 hi hz0 hz1 _ _ _ _ N rfl rfl rfl rfl (by rw [hz2]; omega) (by unfold maxLen; omega) (Nat.le_refl _) ?_; intro w1 hown1 hg1)
  have hbl1 : Bl w w1 := (Bl.refl _).grown hg1 (fun k hk => by cases hk)
  have HO := Lib.hid (own_made hown1)
  clear hown1 hg1 hi hz0 hz1 hz2
  obtain ⟨g, hg⟩ : ∃ g, g = w.heap.size := ⟨_, rfl⟩
  rw [← hg] at HO
  rw [← hg]
  clear hg
  rw [spG_max]
  have g1 := spG_pos (N : Int)
  have g2 := spG_le h5
  have HB := Lib.hid (fun i (h0 : 0 ≤ i) (hn : i < (N : Int)) => sp_bd h0 hn h5 h3 h1)
  obtain ⟨G, hG⟩ : ∃ G, G = spG (N : Int) := ⟨_, rfl⟩
  rw [← hG] at g1 g2 HB ⊢
  have HG := Lib.hid hG
  clear hG
  go_loopw [37] (fun v37 wr => SpRel w g l N v37 wr) (fun v37 _ => N - (intOf v37).toNat)
  case atStart => exact ⟨0, List.replicate N 0, rfl, Nat.zero_le _, by simp, HO.out, fun j hj => absurd hj (Nat.not_lt_zero _), hbl1⟩
  case round =>
    obtain ⟨i, ds, rfl, hi, hl, hown, hj, hb⟩ := hrel
    rw [Int.toNat_natCast] at hi hl
    by_cases hlt : i < N
    · obtain ⟨⟨q0, q1⟩, ⟨k0, k1⟩, ⟨r0, r1⟩, kr⟩ := HB.out i (by omega) (by omega)
      have HX := Lib.hid (And.intro hl (And.intro hown (And.intro hj hb)))
      have hcell := hown.cell i (by omega)
      have hfree := hown.free i
      clear hl hown hj
      have z1 : (0 : Int) ≤ (i : Int) := by omega
      have z2 : (i : Int) < (N : Int) := by omega
      go_wp2_with fail
      go_quiet (fail)
      obtain ⟨c, hc⟩ : ∃ c : Nat, (i : Int) * ((l.length : Int) - 1) / G = c := ⟨((i : Int) * ((l.length : Int) - 1) / G).toNat, by omega⟩
      obtain ⟨r, hr⟩ : ∃ r, (i : Int) * ((l.length : Int) - 1) % G = r := ⟨_, rfl⟩
      have HS : Hid (spAt l N i = btw r G (l[c]?.getD 0) (l[c + 1]?.getD 0)) := by
        show _ = _
        unfold spAt
        rw [← HG.out, hc, hr, Int.toNat_natCast]
      rw [hc] at k0 k1 kr
      rw [hr] at r0 r1 kr
      rw [hc, hr]
      clear hc hr q0 q1
      have hcl : c < l.length := by omega
      obtain ⟨x0, hx0⟩ : ∃ x0, l[c]?.getD 0 = x0 := ⟨_, rfl⟩
      have c0 := HC.out c hcl
      have v0 := isLev_iff.1 (HLV.out c hcl)
      rw [hx0] at c0 v0 HS
      have X0 := Lib.hid hx0
      have cw0 := c0
      clear hx0
      obtain ⟨v00, v01⟩ := v0
      have hgb := HX.out.2.1.base.1
      have hbq : Bl w (wr.drewN nq) := hb.drewN nq
      have hgz : g < (wr.drewN nq).heap.size := HX.out.2.1.base.2
      have c0 := hbq.cell c0
      have hcell : (wr.drewN nq).cell? ⟨g, i, none⟩ = _ := hcell
      have hfree : (wr.drewN nq).frozen? ⟨g, i, none⟩ = false := hfree
      have HY : Hid (Own w (wr.drewN nq) g N ds) := HX.out.2.1.drewN nq
      generalize wr.drewN nq = wq at *
      by_cases hr0 : 0 < r
      · have kr := kr hr0
        have hcl1 : c + 1 < l.length := by omega
        obtain ⟨x1, hx1⟩ : ∃ x1, l[c + 1]?.getD 0 = x1 := ⟨_, rfl⟩
        have c1 := HC.out (c + 1) hcl1
        have v1 := isLev_iff.1 (HLV.out (c + 1) hcl1)
        rw [hx1] at c1 v1 HS
        have X1 := Lib.hid hx1
        have cw1 := c1
        clear hx1
        obtain ⟨v10, v11⟩ := v1
        have c1 := hbq.cell c1
        go_wp2_with fail
        have HO5 := Lib.hid (HY.out.set i x0)
        have hb5 : Bl w (wq.setCell ⟨g, i, none⟩ (.int .i64 x0)) := HY.out.bl hbq _ _
        have c0 := Bl.cell hb5 (HC.out c hcl)
        have c1 := Bl.cell hb5 (HC.out (c + 1) hcl1)
        rw [X0.out] at c0
        rw [X1.out] at c1
        have c5 := HO5.out.cell i (by rw [List.length_set, HX.out.1]; exact hlt)
        have f5 := HO5.out.free i
        generalize wq.setCell ⟨g, i, none⟩ (.int .i64 x0) = W5 at *
        have hgz5 : g < W5.heap.size := HO5.out.base.2
        have z3 : (0 : Int) ≤ (c : Int) := by omega
        have z4 : (c : Int) + 1 < (l.length : Int) := by omega
        have z5 : (0 : Int) ≤ (c : Int) + 1 := by omega
        have z6 : IntKind.i64.wrap ((c : Int) + 1) = (c : Int) + 1 := IntWalk.i64_in _ (by omega)
        have z7 : ((c : Int) + 1).toNat = c + 1 := by omega
        clear hcell hfree hgz hbq
        go_region_held3 (fun w' => w'.cell? ⟨b, off + c, none⟩ = some (.int .i64 x0) ∧ w'.cell? ⟨b, off + (c + 1), none⟩ = some (.int .i64 x1))
          (refine ⟨Bl.cell (w := w) ?_ cw0, Bl.cell (w := w) ?_ cw1⟩ <;> first | ((repeat (first | with_reducible exact Bl.refl _ | with_reducible assumption | with_reducible refine Bl.drew ?_ | with_reducible refine Bl.alloc ?_ _ | with_reducible refine Bl.trans ?_ (by assumption))); done) | (refine Bl.setCell ?_ hgb _; ((repeat (first | with_reducible exact Bl.refl _ | with_reducible assumption | with_reducible refine Bl.drew ?_ | with_reducible refine Bl.alloc ?_ _ | with_reducible refine Bl.trans ?_ (by assumption))); done)))
          (first
            | (go_at_call 27; (with_reducible refine (share_any r G _ r0 (by omega) (by omega) (by omega)).mono ?_); rintro e' w6 ⟨nh, nl, dh, dl, rfl, HH, g6'⟩; have g6 := g6'.bl; clear g6'; have HH6 := Lib.hid HH; clear HH)
            | (go_at_call 28; refine (between_any nh nl dh dl r G x0 x1 _ HH6.out.1 HH6.out.2 ⟨r0, by omega, by omega, by omega⟩ v00 v01 v10 v11).mono ?_; rintro e' w7 ⟨rfl, g7'⟩; have g7 := g7'.bl; clear g7'; have h7 : Bl W5 w7 := (by ((repeat (first | with_reducible exact Bl.refl _ | with_reducible assumption | with_reducible refine Bl.drew ?_ | with_reducible refine Bl.alloc ?_ _ | with_reducible refine Bl.trans ?_ (by assumption))); done)); have c7 := h7.cell c5; have f7 := h7.unfroz (p := ⟨g, i, none⟩) hgz5 f5))
        go_wp2_with fail
        exact ⟨⟨i + 1, (ds.set i x0).set i (btw r G x0 x1), by go_num, by omega, by simp [HX.out.1], (HO5.out.far h7).set _ _, by rw [List.set_set]; exact sp_set HX.out.2.2.1 HS.out (by rw [HX.out.1]; exact hlt), (HO5.out.far h7).bl (hb5.trans h7) _ _⟩, by simp [intOf]; omega⟩
      · obtain rfl : r = 0 := by omega
        have HS0 : Hid (spAt l N i = x0) := by show _ = x0; rw [HS.out, btw_zero (by omega)]
        go_wp2_with fail
        go_roundw
        case rel => exact ⟨i + 1, ds.set i x0, by go_num, by omega, by simp [HX.out.1], HY.out.set _ _, sp_set HX.out.2.2.1 HS0.out (by rw [HX.out.1]; exact hlt), HY.out.bl hbq _ _⟩
        case measure => simp [intOf]; omega
    · obtain rfl : i = N := by omega
      have HR := Lib.hid (spL_eq (l := l) (n := (i : Int)) (ds := ds) hl (fun j hj' => hj j (by omega)))
      have HSL := Lib.hid hown.slc
      clear hown hj
      go_wp2_with fail
      go_returns
      exact ⟨_, by rw [e.out.1]; rfl, by rw [e.out.2, ← HR.out]; rw [hl] at *; exact HSL.out, hb⟩

set_option maxRecDepth 100000 in
set_option maxHeartbeats 1600000 in
theorem spread_prog (v : Value) (l : List Int) (n : Int) (w : World) (h : Slc w v l) :
    Calls Try.prog 24 #[v, .int .i64 n] w (PSpr l n w) := by
  have HA0 := fun w' (g : Bl w w') => areLevels_slc v l w' (h.bl g)
  obtain ⟨o, cap, hv, ⟨hc1, hc2⟩, hcell⟩ := id h
  unfold PSpr
  by_cases h1 : 2000 < l.length
  · have e := Lib.hid (sp_bad (l := l) (n := n) (c := 2) (by unfold spX; rw [if_pos h1]) (by decide))
    clear HA0 hcell h
    subst hv
    go_enter Try.func24, Try.ntmps24
    go_wp2_with fail
    go_returns
    exact ⟨_, by rw [e.out.1]; rfl, by rw [e.out.2]; exact slc_nil _ _ _ (by omega), Bl.refl _⟩
  cases h2 : l.all isLev with
  | false =>
    have e := Lib.hid (sp_bad (l := l) (n := n) (c := 1) (by unfold spX; rw [if_neg h1, if_pos h2]) (by decide))
    rw [h2] at HA0
    have HA := Lib.hid HA0
    clear HA0 hcell h h2
    subst hv
    go_enter Try.func24, Try.ntmps24
    go_wp2_with fail
    refine (HA.out _ (Bl.refl _)).mono ?_
    rintro e' w1 ⟨rfl, rfl⟩
    go_wp2_with fail
    go_returns
    exact ⟨_, by rw [e.out.1]; rfl, by rw [e.out.2]; exact slc_nil _ _ _ (by omega), Bl.refl _⟩
  | true =>
    by_cases h3 : l.length = 0
    · have e := Lib.hid (sp_bad (l := l) (n := n) (c := 8) (by unfold spX; rw [if_neg h1, if_neg (by rw [h2]; decide), if_pos h3]) (by decide))
      rw [h2] at HA0
      have HA := Lib.hid HA0
      have hv' : v = .slice o 0 cap := by rw [hv, h3]
      clear HA0 hcell h h2 hv h3 h1 hc1
      subst hv'
      go_enter Try.func24, Try.ntmps24
      go_wp2_with fail
      refine (HA.out _ (Bl.refl _)).mono ?_
      rintro e' w1 ⟨rfl, rfl⟩
      go_wp2_with fail
      go_returns
      exact ⟨_, by rw [e.out.1]; rfl, by rw [e.out.2]; exact slc_nil _ _ _ (by omega), Bl.refl _⟩
    · by_cases h4 : n < 0 ∨ 2000 < n
      · have e := Lib.hid (sp_bad (l := l) (n := n) (c := 1) (by unfold spX; rw [if_neg h1, if_neg (by rw [h2]; decide), if_neg h3, if_pos h4]) (by decide))
        rw [h2] at HA0
        have HA := Lib.hid HA0
        clear HA0 hcell h h2
        subst hv
        rcases h4 with h4 | h4
        · go_enter Try.func24, Try.ntmps24
          go_wp2_with fail
          refine (HA.out _ (Bl.refl _)).mono ?_
          rintro e' w1 ⟨rfl, rfl⟩
          go_wp2_with fail
          go_returns
          exact ⟨_, by rw [e.out.1]; rfl, by rw [e.out.2]; exact slc_nil _ _ _ (by omega), Bl.refl _⟩
        · go_enter Try.func24, Try.ntmps24
          go_wp2_with fail
          refine (HA.out _ (Bl.refl _)).mono ?_
          rintro e' w1 ⟨rfl, rfl⟩
          go_wp2_with fail
          go_returns
          exact ⟨_, by rw [e.out.1]; rfl, by rw [e.out.2]; exact slc_nil _ _ _ (by omega), Bl.refl _⟩
      · exact spread_ok v l n w h (by omega) h2 (by omega) (by omega) (by omega)
end Go.Proofs.Ytgpblgalklegkaa
