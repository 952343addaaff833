/- Changes of the program. -/
import Derived.Test.YtdnipbeggcfnbaaReachP
import Derived.Test.YtdnipbeggcfnbaaChM
import Derived.Test.YtdnipbeggcfnbaaPairs
namespace Go.Proofs.Ytdnipbeggcfnbaa
open Go.RowKit Go.Sort

set_option maxHeartbeats 800000 in
theorem chg_fn (ba bl : Nat) (G : Int → Int) (n t : Int) (va : Value) (w : World)
    (ca : w.cell? ⟨ba, 0, none⟩ = some va) (cl : w.cell? ⟨bl, 1, none⟩ = some (.int .i64 n)) (hA : TimeFn w G va) (t0 : 0 ≤ t) (t1 : t ≤ 36000000) :
    Calls Try.prog 69 (#[.int .i64 t] ++ #[.pointer (some ⟨ba, 0, none⟩), .pointer (some ⟨bl, 0, none⟩)]) w fun e w' => e = .returned (.bool (!(G t == n))) ∧ Gr w w' := by
  obtain ⟨g, cb, rfl, eg, hf⟩ := hA
  have HV := Lib.hid (fun w1 (g1 : Gr w w1) => hf w1 t g1.bl t0 t1)
  clear hf
  generalize G t = a at *
  have hba := World.block_lt_of_cell? _ _ ca
  have hbl := World.block_lt_of_cell? _ _ cl
  simp only at hba hbl
  go_enter Try.func69, Try.ntmps69
  go_wp2_with fail
  go_region_held3 (fun w' => w'.cell? ⟨ba, 0, none⟩ = some (.func (.func g) #[] cb) ∧ w'.cell? ⟨bl, 1, none⟩ = some (.int .i64 n))
    (refine ⟨Gr.cell (w := w) ?_ ca, Gr.cell (w := w) ?_ cl⟩ <;> ((repeat (first | with_reducible exact Gr.refl _ | with_reducible assumption | with_reducible refine Gr.drew ?_ | with_reducible refine Gr.alloc ?_ _ | with_reducible refine Gr.trans ?_ (by assumption))); done))
    ((go_at_fn g; refine (HV.out _ (by ((repeat (first | with_reducible exact Gr.refl _ | with_reducible assumption | with_reducible refine Gr.drew ?_ | with_reducible refine Gr.alloc ?_ _ | with_reducible refine Gr.trans ?_ (by assumption))); done))).mono ?_; rintro e w2 ⟨rfl, g2⟩))
  go_wp2_with fail
  go_returns
  exact ⟨by first | rfl | exact ret_bool (by simp), by ((repeat (first | with_reducible exact Gr.refl _ | with_reducible assumption | with_reducible refine Gr.drew ?_ | with_reducible refine Gr.alloc ?_ _ | with_reducible refine Gr.trans ?_ (by assumption))); done)⟩
theorem chg_ask (ba bl : Nat) (G : Int → Int) (n lo hi : Int) (va : Value) (w : World)
    (ca : w.cell? ⟨ba, 0, none⟩ = some va) (cl : w.cell? ⟨bl, 1, none⟩ = some (.int .i64 n)) (hA : TimeFn w G va) (t0 : 0 ≤ lo) (t1 : hi ≤ 36000001) :
    AskFn w (fun u => !(G u == n)) lo hi (.func (.func 69) #[] #[.pointer (some ⟨ba, 0, none⟩), .pointer (some ⟨bl, 0, none⟩)]) :=
  ⟨_, _, rfl, enters_of Try.func69 (by kernel_rfl) rfl, fun w1 t hg h0 h1 => chg_fn ba bl G n t va w1 (hg.cell ca) (hg.cell cl) (hA.bl hg) (by omega) (by omega)⟩

/-- The last change, in its box. -/
def LastAt (W : World) (t n : Int) (s : Value) (wx : World) : Prop := ∃ b, s = .pointer (some ⟨b, 0, none⟩) ∧ W.heap.size ≤ b ∧ wx.heap[b]? = some (.cells #[.int .i64 t, .int .i64 n] 58 (0, 0)) ∧ Bl W wx
theorem box_cells {w : World} {b : Nat} {t n : Int} {e : TypeId} (h : w.heap[b]? = some (.cells #[.int .i64 t, .int .i64 n] e (0, 0))) :
    (w.cell? ⟨b, 0, none⟩ = some (.int .i64 t) ∧ w.cell? ⟨b, 1, none⟩ = some (.int .i64 n)) ∧ w.frozen? ⟨b, 0, none⟩ = false ∧ w.frozen? ⟨b, 1, none⟩ = false := by
  refine ⟨⟨?_, ?_⟩, ?_, ?_⟩
  · rw [cell_of_row w b 0 _ _ (0, 0) h]; rfl
  · rw [cell_of_row w b 1 _ _ (0, 0) h]; rfl
  · simp [World.frozen?, h]
  · simp [World.frozen?, h]
theorem box_bl {w w' : World} {b : Nat} {o : Obj} (h : w.heap[b]? = some o) (g : Bl w w') : w'.heap[b]? = some o := by
  rw [g.block b (box_lt h)]; exact h
theorem own2both {W W' : World} {n : Nat} {a b : Value} {t : TypeId} (hn : n = W.heap.size) (h : Bl (W.alloc (.cells #[a, b] t)) W') :
    (W'.cell? ⟨n, 0, none⟩ = some a ∧ W'.cell? ⟨n, 1, none⟩ = some b) ∧ W'.frozen? ⟨n, 0, none⟩ = false ∧ W'.frozen? ⟨n, 1, none⟩ = false := by
  subst hn
  exact ⟨box2 rfl h, by rw [h.frozen (by simp)]; simp, by rw [h.frozen (by simp)]; simp⟩
theorem box_set {w : World} {b : Nat} {t n t' n' : Int} {e : TypeId} (h : w.heap[b]? = some (.cells #[.int .i64 t, .int .i64 n] e (0, 0))) :
    ((w.setCell ⟨b, 0, none⟩ (.int .i64 t')).setCell ⟨b, 1, none⟩ (.int .i64 n')).heap[b]? = some (.cells #[.int .i64 t', .int .i64 n'] e (0, 0)) := by
  simp [World.setCell, Array.getElem?_modify, h]
/-- The length of a slice. -/
def lenP : Value → Nat
  | .slice _ n _ => n
  | _ => 0
/-- What holds in the program's loop. -/
def ChPR (W : World) (b : Nat) (lev : Int → Int) (T S e : Int) (v7 : Value) (wr : World) : Prop := ∃ (r : List (Int × Int)) (t : Int), Row (b + 1) 58 wr v7 r ∧ ChRel lev T S e r t ∧ wr.heap[b]? = some (.cells #[.int .i64 t, .int .i64 (lev t)] 58 (0, 0)) ∧ Bl W wr

set_option maxRecDepth 100000 in
set_option maxHeartbeats 6400000 in
theorem changes_ok (F T S Dl Tm k : Int) (sv : Value) (l : List (Int × Int)) (w : World) (h : PtsAny w sv l) (hc : ckFade F T S Dl Tm k l = 0) :
    Calls Try.prog 38 #[.agg #[.int .i64 F, .int .i64 T, .int .i64 S, .int .i64 Dl, .int .i64 Tm, .int .i64 k, sv]] w fun e w' => ∃ v, e = .returned (.tuple #[v, .int .i64 (csX F T S Dl Tm k l)]) ∧ PtsAny w' v (csL F T S Dl Tm k l) ∧ Bl w w' := by
  have HC0 := fun w1 (g : Gr w w1) => checkFade_any F T S Dl Tm k sv l w1 (h.gr g)
  rw [hc] at HC0
  have HC := Lib.hid HC0
  obtain ⟨hok, hcc⟩ := okFade_of hc
  have HO := Lib.hid (fun w1 (g : Gr w w1) => course_any F T S Dl Tm k l sv w1 hok (curveAt_of (h.gr g) hcc))
  have HE := Lib.hid (fun w1 => end_any F T S Dl Tm k sv w1 hok.s0 hok.s1 hok.d0 hok.d1 hok.m0 hok.m1)
  have s0 := hok.s0
  have s1 := hok.s1
  have se : S ≤ S + Dl + Tm := by have := hok.d0; have := hok.m0; omega
  have e1 := hok.e1
  have HK := Lib.hid hok
  have HCk := Lib.hid hc
  clear h hc hcc hok HC0
  have HN1 := Lib.hid (fun t (ht : fadeAt F T S Dl Tm k l t ≠ T) => lt_end ht)
  have HB := Lib.hid (fun t => fade_bd (t := t) HK.out)
  have HM := Lib.hid (fun t u v (h1 : t ≤ u) (h2 : u ≤ v) (h3 : fadeAt F T S Dl Tm k l u ≠ fadeAt F T S Dl Tm k l t) => ne_mono HK.out h1 h2 h3)
  have HS1 := Lib.hid (fun r (h : chL (fadeAt F T S Dl Tm k l) T (S + Dl + Tm) 5000 S = some r) => cs_some HCk.out h)
  have HS2 := Lib.hid (fun (h : chL (fadeAt F T S Dl Tm k l) T (S + Dl + Tm) 5000 S = none) => cs_none HCk.out h)
  clear HCk HK
  generalize csL F T S Dl Tm k l = RL at *
  generalize csX F T S Dl Tm k l = RX at *
  generalize fadeAt F T S Dl Tm k l = lev at *
  go_enter Try.func38, Try.ntmps38
  go_wp2_with fail
  refine (HC.out _ ((Gr.refl w).alloc _)).mono ?_
  rintro e' w1 ⟨rfl, g1⟩
  obtain ⟨k0, k1, k2, k3, k4, k5, k6⟩ := own7 g1
  go_wp2_with fail
  refine (HO.out _ (((Gr.refl w).alloc _).trans g1)).mono ?_
  rintro e' w3 ⟨v, rfl, hV, g2⟩
  have hV' := hV
  obtain ⟨g, cb, rfl, eg, hf⟩ := hV'
  have HV := Lib.hid hV
  have HF := Lib.hid (fun w1 t (g1 : Bl w3 w1) t0 t1 => hf w1 t g1 t0 t1)
  clear hV hf
  clear k0 k1 k2 k3 k4 k5 k6
  obtain ⟨k0, k1, k2, k3, k4, k5, k6⟩ := own7 (g1.trans g2)
  have hz0 : w.heap.size < w3.heap.size := by have := (g1.trans g2).size; simp at this; omega
  have hw3 : Bl w w3 := (((Bl.refl w).alloc _).trans g1.bl).trans g2.bl
  clear HC
  go_wp2_with fail
  obtain ⟨W4, hW4⟩ : ∃ W4, W4 = w3.alloc (.cells #[.func (.func g) #[] cb] 72) := ⟨_, rfl⟩
  have hb4 : Bl w3 W4 := by rw [hW4]; exact (Bl.refl _).alloc _
  have ca : W4.cell? ⟨w3.heap.size, 0, none⟩ = some (.func (.func g) #[] cb) := by rw [hW4]; simp
  obtain ⟨ba, hba⟩ : ∃ ba, ba = w3.heap.size := ⟨_, rfl⟩
  have hz4 : ba < W4.heap.size := by rw [hba, hW4]; simp
  have hz5 : w.heap.size < ba := by omega
  rw [← hW4, ← hba]
  rw [← hba] at ca
  clear hW4
  replace k0 := hb4.cell k0
  replace k1 := hb4.cell k1
  replace k2 := hb4.cell k2
  replace k3 := hb4.cell k3
  replace k4 := hb4.cell k4
  replace k5 := hb4.cell k5
  replace k6 := hb4.cell k6
  have HV4 := Lib.hid (HV.out.bl hb4)
  have HF4 := Lib.hid (fun w1 t (g1 : Bl W4 w1) t0 t1 => HF.out w1 t (hb4.trans g1) t0 t1)
  have hw4 : Bl w W4 := hw3.trans hb4
  clear HF HV hba hz0 g1 g2 hb4 hw3
  go_cut [6] (fun s6 wx => LastAt W4 S (lev S) s6 wx)
  case first =>
    go_region_held3 (fun w' => w'.cell? ⟨w.heap.size, 2, none⟩ = some (.int .i64 S) ∧ w'.cell? ⟨ba, 0, none⟩ = some (.func (.func g) #[] cb))
      (refine ⟨Bl.cell (w := W4) ?_ k2, Bl.cell (w := W4) ?_ ca⟩ <;> ((repeat (first | with_reducible exact Bl.refl _ | with_reducible assumption | with_reducible refine Bl.drew ?_ | with_reducible refine Bl.alloc ?_ _ | (with_reducible refine Bl.setCell ?_ ?hs _; (case hs => (exact Bl.size (by ((repeat (first | with_reducible exact Bl.refl _ | with_reducible assumption | with_reducible refine Bl.drew ?_ | with_reducible refine Bl.alloc ?_ _ | with_reducible refine Bl.trans ?_ (by assumption))); done))))) | with_reducible refine Bl.trans ?_ (by assumption))); done))
      ((go_at_fn g; refine (HF4.out _ S (by ((repeat (first | with_reducible exact Bl.refl _ | with_reducible assumption | with_reducible refine Bl.drew ?_ | with_reducible refine Bl.alloc ?_ _ | with_reducible refine Bl.trans ?_ (by assumption))); done)) s0 (by omega)).mono ?_; rintro e w5 ⟨rfl, g5'⟩; have g5 := g5'.bl; clear g5'; (first | ((refine (fun (hzb : Bl (W4.alloc (.cells #[.int .i64 0, .int .i64 0] 58)) w5) => ?_) ?_); rotate_left; (focus ((repeat (first | with_reducible exact Bl.refl _ | with_reducible assumption | with_reducible refine Bl.drew ?_ | with_reducible refine Bl.alloc ?_ _ | with_reducible refine Bl.trans ?_ (by assumption))); done)); (have hz := own2both rfl hzb); (have HQ := Lib.hid (box_bl (heap_alloc_new _ _) hzb)); clear hzb) | skip)))
    all_goals (go_wp2_with fail; go_meet)
    all_goals first
      | exact ⟨_, rfl, Nat.le_refl _, box_set HQ.out, by ((repeat (first | with_reducible exact Bl.refl _ | with_reducible assumption | with_reducible refine Bl.drew ?_ | with_reducible refine Bl.alloc ?_ _ | (with_reducible refine Bl.setCell ?_ ?hs _; (case hs => (exact Bl.size (by ((repeat (first | with_reducible exact Bl.refl _ | with_reducible assumption | with_reducible refine Bl.drew ?_ | with_reducible refine Bl.alloc ?_ _ | with_reducible refine Bl.trans ?_ (by assumption))); done))))) | with_reducible refine Bl.trans ?_ (by assumption))); done)⟩
      | exact ⟨_, rfl, Bl.size (by ((repeat (first | with_reducible exact Bl.refl _ | with_reducible assumption | with_reducible refine Bl.drew ?_ | with_reducible refine Bl.alloc ?_ _ | with_reducible refine Bl.trans ?_ (by assumption))); done)), heap_alloc_new _ _, by ((repeat (first | with_reducible exact Bl.refl _ | with_reducible assumption | with_reducible refine Bl.drew ?_ | with_reducible refine Bl.alloc ?_ _ | with_reducible refine Bl.trans ?_ (by assumption))); done)⟩
  case rest =>
    obtain ⟨b, rfl, hb, HX, hB⟩ := hcut
    obtain ⟨⟨x0, x1⟩, f0, f1⟩ := box_cells HX
    have hbz := box_lt HX
    have HX := Lib.hid HX
    have hzb0 : w.heap.size < W4.heap.size := by omega
    have hzb : b < wc.heap.size := hbz
    have hzw : w.heap.size < wc.heap.size := by omega
    have hzba : ba < wc.heap.size := by omega
    have infoCh : (Try.prog.info? 58).map (fun i => (i.zero, i.size, i.bytes)) = some (some (.agg #[.int .i64 0, .int .i64 0]), 2, 16) := by kernel_rfl
    have INF := Lib.hid infoCh
    clear infoCh
    go_wp2_with fail
    clear x0 x1 f0 f1
    go_loopw [7] (fun v7 wr => ChPR W4 b lev T S (S + Dl + Tm) v7 wr) (fun v7 _ => 5001 - lenP v7)
    case atStart => exact ⟨[(S, lev S)], S, row_one _ _ hbz, ch_start se, by exact box_bl HX.out ((Bl.refl _).alloc _), hB.alloc _⟩
    case round =>
      obtain ⟨r, t, hrow, hrel, hbox, hbr⟩ := hrel
      have hlen := hrel.len
      have hmost := hrel.most
      have hlo := hrel.lo
      have hhi := hrel.hi
      obtain ⟨g7, cap7, rfl, hg7a, hg7b⟩ := World.ownsRow.form hrow (by omega)
      have HROW := Lib.hid hrow
      have HREL := Lib.hid hrel
      have HBOX := Lib.hid hbox
      obtain ⟨⟨x0, x1⟩, f0, f1⟩ := box_cells hbox
      have hbw := box_lt hbox
      clear hrow hrel hbox
      replace k0 := hbr.cell k0
      replace k1 := hbr.cell k1
      replace k2 := hbr.cell k2
      replace k3 := hbr.cell k3
      replace k4 := hbr.cell k4
      replace k5 := hbr.cell k5
      replace k6 := hbr.cell k6
      replace ca := hbr.cell ca
      by_cases hT : lev t = T
      · have hTb : (lev t != T) = false := by simpa using hT
        have e := Lib.hid (HS1.out r (ch_end HREL.out hT))
        clear hT
        go_wp2_with fail
        go_returns
        exact ⟨.slice (some ⟨g7, 0, none⟩) r.length cap7, by rw [e.out.2]; rfl, by rw [e.out.1]; exact HROW.out.pts, hw4.trans hbr⟩
      · have hTb : (lev t != T) = true := by simpa using hT
        by_cases hfull : r.length = 5000
        · have e := Lib.hid (HS2.out (ch_full HREL.out hT hfull))
          go_wp2_with fail
          go_returns
          exact ⟨.slice none 0 0, by rw [e.out.2]; rfl, by rw [e.out.1]; exact Or.inl ⟨_, _, rfl, rfl⟩, hw4.trans hbr⟩
        · have hfb : ((r.length : Int) == 5000) = false := by simp; omega
          have hte := HN1.out t hT
          have HNX := Lib.hid (ch_next HREL.out hT hte (by omega))
          have t0 : 0 ≤ t := by omega
          have hnb := fst_bd (p := fun u => !(lev u == lev t)) (lo := t + 1) (hi := S + Dl + Tm) (by omega)
          have HP0 := fun vh w' (hA : AskFn w' (fun u => !(lev u == lev t)) (t + 1) (S + Dl + Tm) vh) => first_prog (t + 1) (S + Dl + Tm) (fun u => !(lev u == lev t)) vh w' hA (by omega) (by omega) e1 (fun s u h1 h2 _ h3 => by
            have h3 : lev s ≠ lev t := by simpa using h3
            have := HM.out t s u (by omega) h2 h3
            simpa using this)
          have hnx : fstP (fun u => !(lev u == lev t)) (t + 1) (S + Dl + Tm) = nxt lev (S + Dl + Tm) t := rfl
          rw [hnx] at HP0 hnb
          have HP := Lib.hid HP0
          have HA := Lib.hid (chg_ask ba b lev (lev t) (t + 1) (S + Dl + Tm) (.func (.func g) #[] cb) wr ca x1 (HV4.out.bl hbr) (by omega) (by omega))
          obtain ⟨n0, n1⟩ := hnb
          clear HP0 hnx
          generalize nxt lev (S + Dl + Tm) t = nt at *
          have hn0 : 0 ≤ nt := by omega
          go_wp2_with fail
          have hw1 : IntKind.i64.wrap (t + 1) = t + 1 := IntWalk.i64_in _ (by omega)
          go_cut [8] (fun s8 wx => s8 = .int .i64 nt ∧ Bl wr wx)
          case first =>
            clear hTb hfb hfull hT HB HM HN1 HV4 HS1 HS2 HREL HX
            go_region_held3 (fun w' => w'.cell? ⟨b, 0, none⟩ = some (.int .i64 t) ∧ w'.cell? ⟨w.heap.size, 0, none⟩ = some (.int .i64 F) ∧ w'.cell? ⟨w.heap.size, 1, none⟩ = some (.int .i64 T) ∧ w'.cell? ⟨w.heap.size, 2, none⟩ = some (.int .i64 S) ∧ w'.cell? ⟨w.heap.size, 3, none⟩ = some (.int .i64 Dl) ∧ w'.cell? ⟨w.heap.size, 4, none⟩ = some (.int .i64 Tm) ∧ w'.cell? ⟨w.heap.size, 5, none⟩ = some (.int .i64 k) ∧ w'.cell? ⟨w.heap.size, 6, none⟩ = some sv)
              (refine ⟨Bl.cell (w := wr) ?_ x0, Bl.cell (w := wr) ?_ k0, Bl.cell (w := wr) ?_ k1, Bl.cell (w := wr) ?_ k2, Bl.cell (w := wr) ?_ k3, Bl.cell (w := wr) ?_ k4, Bl.cell (w := wr) ?_ k5, Bl.cell (w := wr) ?_ k6⟩ <;> ((repeat (first | with_reducible exact Bl.refl _ | with_reducible assumption | with_reducible refine Bl.drew ?_ | with_reducible refine Bl.alloc ?_ _ | with_reducible refine Bl.trans ?_ (by assumption))); done))
              (first
                | (go_at_call 64; ((with_reducible refine (HE.out _).mono ?_); rintro e' w5 ⟨rfl, rfl⟩))
                | (go_at_call 66; (refine (HP.out _ _ (HA.out.bl (by ((repeat (first | with_reducible exact Bl.refl _ | with_reducible assumption | with_reducible refine Bl.drew ?_ | with_reducible refine Bl.alloc ?_ _ | with_reducible refine Bl.trans ?_ (by assumption))); done)))).mono ?_; rintro e' w6 ⟨rfl, g6'⟩; have g6 := g6'.bl; clear g6')))
            all_goals (go_wp2_with fail; go_meet)
            all_goals exact ⟨rfl, by ((repeat (first | with_reducible exact Bl.refl _ | with_reducible assumption | with_reducible refine Bl.drew ?_ | with_reducible refine Bl.alloc ?_ _ | with_reducible refine Bl.trans ?_ (by assumption))); done)⟩
          case rest =>
            obtain ⟨rfl, h6⟩ := hcut
            clear hTb hfb hfull hT HB HM HN1 HV4 HS1 HS2 HREL HX hw1
            replace ca := h6.cell ca
            clear x0 x1 f0 f1 k0 k1 k2 k3 k4 k5 k6
            go_wp2_with fail
            refine (HF4.out _ nt (hbr.trans h6) hn0 (by omega)).mono ?_
            rintro e' w7 ⟨rfl, g7'⟩
            have h7 : Bl wr w7 := h6.trans g7'.bl
            have HROW7 := Lib.hid (HROW.out.bl h7)
            have hbox7 := box_bl HBOX.out h7
            obtain ⟨⟨x0, x1⟩, f0, f1⟩ := box_cells hbox7
            have hb7 := box_lt hbox7
            have HBOX7 := Lib.hid hbox7
            clear hbox7 HA HP
            have hb7 : b < w7.heap.size := hb7
            have HR8 := Lib.hid (row_set (j := 1) (row_set (j := 0) HROW7.out (Nat.lt_succ_self b) (.int .i64 nt)) (Nat.lt_succ_self b) (.int .i64 (lev nt)))
            have HB8 := Lib.hid (((hbr.trans h7).setCell (p := ⟨b, 0, none⟩) hb (.int .i64 nt)).setCell (p := ⟨b, 1, none⟩) hb (.int .i64 (lev nt)))
            have HX8 := Lib.hid (box_set (t' := nt) (n' := lev nt) HBOX7.out)
            have HSZ : Hid (((w7.setCell ⟨b, 0, none⟩ (.int .i64 nt)).setCell ⟨b, 1, none⟩ (.int .i64 (lev nt))).heap.size = w7.heap.size) := by
              show Array.size _ = _
              simp only [World.setCell, Array.size_modify]
            go_wp2_with (at_builtin; refine app_pair Try.underlying53 INF.out rfl _ _ rfl (b + 1) _ _ r nt (lev nt) HR8.out rfl (by rw [HSZ.out]; rfl) (by omega) (by rw [HSZ.out]; exact hb7) ?_; intro v' w8 hrow8 hbl8 hg8; have HG8 := Lib.hid hg8; have HBL8 := Lib.hid hbl8; have HROW8 := Lib.hid hrow8; clear hg8 hbl8 hrow8)
            obtain ⟨g9, cap9, rfl, _, _⟩ := World.ownsRow.form HROW8.out (by simp)
            go_wp2
            go_roundw
            case rel => exact ⟨r ++ [(nt, lev nt)], nt, HROW8.out, HNX.out, Row.far HR8.out HG8.out (Nat.lt_succ_self b) HX8.out, HBL8.out W4 HB8.out (by omega)⟩
            case measure => simp [lenP]; omega
end Go.Proofs.Ytdnipbeggcfnbaa
