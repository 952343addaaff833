/- Changes of the reference, where its LevelAt is known. -/
import Derived.Test.YtdnipbeggcfnbaaFirR
import Derived.Test.YtdnipbeggcfnbaaChM
import Derived.Test.YtdnipbeggcfnbaaPairs
namespace Go.Proofs.Ytdnipbeggcfnbaa
open Go.RowKit

theorem infoCh : (Try.prog.info? 58).map (fun i => (i.zero, i.size, i.bytes)) = some (some (.agg #[.int .i64 0, .int .i64 0]), 2, 16) := by kernel_rfl
/-- The length of a slice. -/
def lenOf : Value → Nat
  | .slice _ n _ => n
  | _ => 0
/-- What holds in the reference's loop. -/
def ChR (W : World) (lev : Int → Int) (T S e : Int) (v1 v2 v3 : Value) (wr : World) : Prop := ∃ (r : List (Int × Int)) (t : Int), v1 = .int .i64 t ∧ v2 = .int .i64 (lev t) ∧ Row W.heap.size 58 wr v3 r ∧ ChRel lev T S e r t ∧ Bl W wr

set_option maxRecDepth 100000 in
set_option maxHeartbeats 6400000 in
theorem changes_ref0 (F T S Dl Tm k : Int) (sv : Value) (l : List (Int × Int)) (w : World) (h : PtsAny w sv l) (hc : ckFade F T S Dl Tm k l = 0)
    (hL : ∀ w' t, Bl w w' → 0 ≤ t → t ≤ 36000000 → Calls Try.prog 63 #[.agg #[.int .i64 F, .int .i64 T, .int .i64 S, .int .i64 Dl, .int .i64 Tm, .int .i64 k, sv], .int .i64 t] w' fun e w'' => e = .returned (.int .i64 (fadeAt F T S Dl Tm k l t)) ∧ Bl w' w'') :
    Calls Try.prog 39 #[.agg #[.int .i64 F, .int .i64 T, .int .i64 S, .int .i64 Dl, .int .i64 Tm, .int .i64 k, sv]] w fun e w' => ∃ v, e = .returned (.tuple #[v, .int .i64 (csX F T S Dl Tm k l)]) ∧ PtsAny w' v (csL F T S Dl Tm k l) ∧ Bl w w' := by
  have HC0 := fun w1 (g : Bl w w1) => checkFade_ref F T S Dl Tm k sv l w1 (h.bl g)
  unfold PCk at HC0
  rw [hc] at HC0
  have HC := Lib.hid HC0
  obtain ⟨o, ln, cap, hsv⟩ : ∃ o n cap, sv = .slice o n cap := by
    rcases h with ⟨o, cap, rfl, rfl⟩ | ⟨b, off, cap, rfl, h2, h3⟩
    · exact ⟨_, _, _, rfl⟩
    · exact ⟨_, _, _, rfl⟩
  obtain ⟨hok, _⟩ := okFade_of hc
  have s0 := hok.s0
  have s1 := hok.s1
  have d0 := hok.d0
  have d1 := hok.d1
  have m0 := hok.m0
  have m1 := hok.m1
  have e1 := hok.e1
  have HL := Lib.hid hL
  have HF := Lib.hid (fun w' t n (g : Bl w w') (t0 : 0 ≤ t) (t1 : t < S + Dl + Tm) => first_ref0 F T S Dl Tm k (t + 1) (S + Dl + Tm) n sv l w' (h.bl g) hc (fun w'' t' g' t0' t1' => hL w'' t' (g.trans g') t0' t1') (by omega) (by omega) e1)
  have HN := Lib.hid (fun t (ht : fadeAt F T S Dl Tm k l t ≠ T) => nxt_eq hok ht)
  have HE := Lib.hid (fun t (ht : fadeAt F T S Dl Tm k l t ≠ T) => lt_end ht)
  have HB := Lib.hid (fun t => fade_bd (t := t) hok)
  have HCk := Lib.hid hc
  have hlevT : Hid (fadeAt F T S Dl Tm k l (S + Dl + Tm) = T) := fade_end
  have HS1 := Lib.hid (fun r (h : chL (fadeAt F T S Dl Tm k l) T (S + Dl + Tm) 5000 S = some r) => cs_some HCk.out h)
  have HS2 := Lib.hid (fun (h : chL (fadeAt F T S Dl Tm k l) T (S + Dl + Tm) 5000 S = none) => cs_none HCk.out h)
  have HFt := Lib.hid (fun w' t (g : Bl w w') (t0 : 0 ≤ t) (ht : fadeAt F T S Dl Tm k l t ≠ T) => show Calls Try.prog 68 #[.agg #[.int .i64 F, .int .i64 T, .int .i64 S, .int .i64 Dl, .int .i64 Tm, .int .i64 k, sv], .int .i64 (t + 1), .int .i64 (S + Dl + Tm), .int .i64 (if T < F then fadeAt F T S Dl Tm k l t - 1 else fadeAt F T S Dl Tm k l t + 1)] w' fun e w'' => e = .returned (.int .i64 (nxt (fadeAt F T S Dl Tm k l) (S + Dl + Tm) t)) ∧ Bl w' w'' from by
    rw [nxt_eq hok ht]
    exact HF.out w' t _ g t0 (lt_end ht))
  clear h hc hok hL HF HN HCk hlevT HC0
  generalize csL F T S Dl Tm k l = RL at *
  generalize csX F T S Dl Tm k l = RX at *
  generalize fadeAt F T S Dl Tm k l = lev at *
  subst hsv
  go_enter Try.func39, Try.ntmps39
  go_wp2_with fail
  refine (HC.out _ ((Bl.refl w).alloc _)).mono ?_
  rintro e' w1 ⟨rfl, g1⟩
  obtain ⟨k0, k1, k2, k3, k4, k5, k6⟩ := own7b rfl g1
  have hw1 : Bl w w1 := ((Bl.refl w).alloc _).trans g1
  have hz0 : w.heap.size < w1.heap.size := by have := g1.size; simp at this; omega
  clear g1
  go_wp2_with fail
  go_region_held3 (fun w' => w'.cell? ⟨w.heap.size, 0, none⟩ = some (.int .i64 F) ∧ w'.cell? ⟨w.heap.size, 1, none⟩ = some (.int .i64 T) ∧ w'.cell? ⟨w.heap.size, 2, none⟩ = some (.int .i64 S) ∧ w'.cell? ⟨w.heap.size, 3, none⟩ = some (.int .i64 Dl) ∧ w'.cell? ⟨w.heap.size, 4, none⟩ = some (.int .i64 Tm) ∧ w'.cell? ⟨w.heap.size, 5, none⟩ = some (.int .i64 k) ∧ w'.cell? ⟨w.heap.size, 6, none⟩ = some (.slice o ln cap))
    (refine ⟨Bl.cell (w := w1) ?_ k0, Bl.cell (w := w1) ?_ k1, Bl.cell (w := w1) ?_ k2, Bl.cell (w := w1) ?_ k3, Bl.cell (w := w1) ?_ k4, Bl.cell (w := w1) ?_ k5, Bl.cell (w := w1) ?_ k6⟩ <;> ((repeat (first | with_reducible exact Bl.refl _ | with_reducible assumption | with_reducible refine Bl.drew ?_ | with_reducible refine Bl.alloc ?_ _ | with_reducible refine Bl.trans ?_ (by assumption))); done))
    ((go_at_call 63; refine (HL.out _ S (by refine Bl.trans hw1 ?_; ((repeat (first | with_reducible exact Bl.refl _ | with_reducible assumption | with_reducible refine Bl.drew ?_ | with_reducible refine Bl.alloc ?_ _ | with_reducible refine Bl.trans ?_ (by assumption))); done)) s0 s1).mono ?_; rintro e' w2 ⟨rfl, g2⟩))
  have h2 : Bl w1 w2 := by ((repeat (first | with_reducible exact Bl.refl _ | with_reducible assumption | with_reducible refine Bl.drew ?_ | with_reducible refine Bl.alloc ?_ _ | with_reducible refine Bl.trans ?_ (by assumption))); done)
  clear g2
  replace k0 := h2.cell k0
  replace k1 := h2.cell k1
  replace k2 := h2.cell k2
  replace k3 := h2.cell k3
  replace k4 := h2.cell k4
  replace k5 := h2.cell k5
  replace k6 := h2.cell k6
  have hw2 : Bl w w2 := hw1.trans h2
  have hz2 : w.heap.size < w2.heap.size := by have := h2.size; omega
  have INF := Lib.hid infoCh
  clear h2 hw1 hz0
  go_wp2_with fail
  go_loopw [6, 7, 8] (fun v6 v7 v8 wr => ChR w2 lev T S (S + Dl + Tm) v6 v7 v8 wr) (fun _ _ v8 _ => 5001 - lenOf v8)
  case atStart => exact ⟨[(S, lev S)], S, rfl, rfl, row_one _ _ (Nat.le_refl _), ch_start (by omega), (Bl.refl _).alloc _⟩
  case round =>
    obtain ⟨r, t, rfl, rfl, hrow, hrel, hbr⟩ := hrel
    have hlen := hrel.len
    have hmost := hrel.most
    have hlo := hrel.lo
    have hhi := hrel.hi
    obtain ⟨g7, cap7, rfl, hg7a, hg7b⟩ := World.ownsRow.form hrow (by omega)
    have HROW := Lib.hid hrow
    have HREL := Lib.hid hrel
    clear hrow hrel
    replace k0 := hbr.cell k0
    replace k1 := hbr.cell k1
    replace k2 := hbr.cell k2
    replace k3 := hbr.cell k3
    replace k4 := hbr.cell k4
    replace k5 := hbr.cell k5
    replace k6 := hbr.cell k6
    have t0 : 0 ≤ t := by omega
    obtain ⟨l0, l1⟩ := HB.out t
    by_cases hT : lev t = T
    · have hTb : (lev t != T) = false := by simpa using hT
      have e := Lib.hid (HS1.out r (ch_end HREL.out hT))
      clear hT
      go_wp2_with fail
      go_returns
      exact ⟨.slice (some ⟨g7, 0, none⟩) r.length cap7, by rw [e.out.2]; rfl, by rw [e.out.1]; exact HROW.out.pts, hw2.trans hbr⟩
    · have hTb : (lev t != T) = true := by simpa using hT
      have hte := HE.out t hT
      have hnb := fst_bd (p := fun u => !(lev u == lev t)) (lo := t + 1) (hi := S + Dl + Tm) (by omega)
      have hnx : fstP (fun u => !(lev u == lev t)) (t + 1) (S + Dl + Tm) = nxt lev (S + Dl + Tm) t := rfl
      rw [hnx] at hnb
      obtain ⟨n0, n1⟩ := hnb
      have hft := fun w' g => HFt.out w' t g t0 hT
      have HN1 : Hid (r.length < 5000 → ChRel lev T S (S + Dl + Tm) (r ++ [(nxt lev (S + Dl + Tm) t, lev (nxt lev (S + Dl + Tm) t))]) (nxt lev (S + Dl + Tm) t)) := fun hl => ch_next HREL.out hT hte hl
      have HN2 : Hid (r.length = 5000 → RL = [] ∧ RX = 2) := fun hl => HS2.out (ch_full HREL.out hT hl)
      clear hnx hT
      generalize nxt lev (S + Dl + Tm) t = nt at *
      have hn0 : 0 ≤ nt := by omega
      by_cases hTF : T < F
      · rw [if_pos hTF] at hft
        have HFT := Lib.hid hft
        clear hft
        go_wp2_with fail
        refine (HFT.out _ (hw2.trans hbr)).mono ?_
        rintro e' w3 ⟨rfl, g3⟩
        replace k0 := g3.cell k0
        replace k1 := g3.cell k1
        replace k2 := g3.cell k2
        replace k3 := g3.cell k3
        replace k4 := g3.cell k4
        replace k5 := g3.cell k5
        replace k6 := g3.cell k6
        go_wp2_with fail
        refine (HL.out _ nt ((hw2.trans hbr).trans g3) hn0 (by omega)).mono ?_
        rintro e' w4 ⟨rfl, g4⟩
        have h24 : Bl w2 w4 := (hbr.trans g3).trans g4
        have HROW4 := Lib.hid ((HROW.out.bl g3).bl g4)
        have hz4 := h24.size
        clear k0 k1 k2 k3 k4 k5 k6
        obtain ⟨m, hm⟩ : ∃ m, m = r.length + 1 := ⟨_, rfl⟩
        have hm1 : m ≤ 5001 := by omega
        have HL9 : Hid ((r ++ [(nt, lev nt)]).length = m) := by show _ = m; rw [hm]; simp
        have Hm := Lib.hid hm
        by_cases hfull : r.length = 5000
        · have e := Lib.hid (HN2.out hfull)
          have hm2 : 5001 ≤ m := by omega
          clear hfull hm
          go_wp2_with (at_builtin; refine app_pair Try.underlying53 INF.out rfl _ _ rfl w2.heap.size _ _ r nt (lev nt) HROW4.out rfl rfl (by omega) (by omega) ?_; intro v' w8 hrow8 hbl8 hg8; obtain ⟨g9, cap9, hv9, _, _⟩ := World.ownsRow.form hrow8 (by simp); rw [HL9.out] at hv9; subst hv9; have HBL8 := Lib.hid hbl8; have HROW8 := Lib.hid hrow8; clear hg8 hbl8 hrow8)
          go_returns
          exact ⟨.slice none 0 0, by rw [e.out.2]; rfl, by rw [e.out.1]; exact Or.inl ⟨_, _, rfl, rfl⟩, HBL8.out w (hw2.trans h24) hw2.size⟩
        · have HNX := Lib.hid (HN1.out (by omega))
          have hm2 : m ≤ 5000 := by omega
          clear hfull hm
          go_wp2_with (at_builtin; refine app_pair Try.underlying53 INF.out rfl _ _ rfl w2.heap.size _ _ r nt (lev nt) HROW4.out rfl rfl (by omega) (by omega) ?_; intro v' w8 hrow8 hbl8 hg8; obtain ⟨g9, cap9, hv9, _, _⟩ := World.ownsRow.form hrow8 (by simp); rw [HL9.out] at hv9; subst hv9; have HBL8 := Lib.hid hbl8; have HROW8 := Lib.hid hrow8; clear hg8 hbl8 hrow8)
          go_roundw
          case rel => exact ⟨r ++ [(nt, lev nt)], nt, rfl, rfl, HROW8.out, HNX.out, HBL8.out w2 h24 (Nat.le_refl _)⟩
          case measure => have := Hm.out; simp [lenOf]; omega
      · rw [if_neg hTF] at hft
        have HFT := Lib.hid hft
        clear hft
        go_wp2_with fail
        refine (HFT.out _ (hw2.trans hbr)).mono ?_
        rintro e' w3 ⟨rfl, g3⟩
        replace k0 := g3.cell k0
        replace k1 := g3.cell k1
        replace k2 := g3.cell k2
        replace k3 := g3.cell k3
        replace k4 := g3.cell k4
        replace k5 := g3.cell k5
        replace k6 := g3.cell k6
        go_wp2_with fail
        refine (HL.out _ nt ((hw2.trans hbr).trans g3) hn0 (by omega)).mono ?_
        rintro e' w4 ⟨rfl, g4⟩
        have h24 : Bl w2 w4 := (hbr.trans g3).trans g4
        have HROW4 := Lib.hid ((HROW.out.bl g3).bl g4)
        have hz4 := h24.size
        clear k0 k1 k2 k3 k4 k5 k6
        obtain ⟨m, hm⟩ : ∃ m, m = r.length + 1 := ⟨_, rfl⟩
        have hm1 : m ≤ 5001 := by omega
        have HL9 : Hid ((r ++ [(nt, lev nt)]).length = m) := by show _ = m; rw [hm]; simp
        have Hm := Lib.hid hm
        by_cases hfull : r.length = 5000
        · have e := Lib.hid (HN2.out hfull)
          have hm2 : 5001 ≤ m := by omega
          clear hfull hm
          go_wp2_with (at_builtin; refine app_pair Try.underlying53 INF.out rfl _ _ rfl w2.heap.size _ _ r nt (lev nt) HROW4.out rfl rfl (by omega) (by omega) ?_; intro v' w8 hrow8 hbl8 hg8; obtain ⟨g9, cap9, hv9, _, _⟩ := World.ownsRow.form hrow8 (by simp); rw [HL9.out] at hv9; subst hv9; have HBL8 := Lib.hid hbl8; have HROW8 := Lib.hid hrow8; clear hg8 hbl8 hrow8)
          go_returns
          exact ⟨.slice none 0 0, by rw [e.out.2]; rfl, by rw [e.out.1]; exact Or.inl ⟨_, _, rfl, rfl⟩, HBL8.out w (hw2.trans h24) hw2.size⟩
        · have HNX := Lib.hid (HN1.out (by omega))
          have hm2 : m ≤ 5000 := by omega
          clear hfull hm
          go_wp2_with (at_builtin; refine app_pair Try.underlying53 INF.out rfl _ _ rfl w2.heap.size _ _ r nt (lev nt) HROW4.out rfl rfl (by omega) (by omega) ?_; intro v' w8 hrow8 hbl8 hg8; obtain ⟨g9, cap9, hv9, _, _⟩ := World.ownsRow.form hrow8 (by simp); rw [HL9.out] at hv9; subst hv9; have HBL8 := Lib.hid hbl8; have HROW8 := Lib.hid hrow8; clear hg8 hbl8 hrow8)
          go_roundw
          case rel => exact ⟨r ++ [(nt, lev nt)], nt, rfl, rfl, HROW8.out, HNX.out, HBL8.out w2 h24 (Nat.le_refl _)⟩
          case measure => have := Hm.out; simp [lenOf]; omega
end Go.Proofs.Ytdnipbeggcfnbaa
