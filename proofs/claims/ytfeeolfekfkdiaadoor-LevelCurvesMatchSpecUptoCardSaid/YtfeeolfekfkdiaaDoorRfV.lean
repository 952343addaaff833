/- The reference's Inverse. -/
import Derived.Test.YtfeeolfekfkdiaaDoorInvA
import Derived.Test.YtfeeolfekfkdiaaDoorRefC
import Derived.Test.YtfeeolfekfkdiaaDoorPairs
import Derived.Deep.AppendLies
import Derived.BigRegion
namespace Go.Proofs.YtfeeolfekfkdiaaDoor
open Go.RowKit Go.Lib Go.Sort

theorem infoR : (Tryd.prog.info? 69).map (fun i => (i.zero, i.size, i.bytes)) = some (some (.agg #[.int .i64 0, .int .i64 0]), 2, 16) := by kernel_rfl
theorem inv_take (l : List (Int × Int)) (m : Nat) (h : m < l.length) : (invL l).take (l.length - m) = (invL l).take (l.length - (m + 1)) ++ [(1000 - (l[m]?.getD (0, 0)).1, 1000 - (l[m]?.getD (0, 0)).2)] := by
  have h1 : l.length - m = (l.length - (m + 1)) + 1 := by omega
  have h2 : l.length - (m + 1) < (invL l).length := by rw [inv_len]; omega
  rw [h1, List.take_succ_eq_append_getElem h2]
  have h3 := inv_get l (l.length - (m + 1)) (by omega)
  rw [List.getElem?_eq_getElem h2, Option.getD_some, show l.length - 1 - (l.length - (m + 1)) = m by omega] at h3
  rw [h3]
  rfl
theorem step_pair {P : Program} {t e : TypeId} (ht : P.underlying t = some (.slice e)) (info : (P.info? e).map (fun i => (i.zero, i.size, i.bytes)) = some (some (.agg #[.int .i64 0, .int .i64 0]), 2, 16))
    {ops : Array Oper} {o : Oper} {a : Act} {K : Act → World → Prop} {Q : Exit → Act → World → Prop} {E : Prop} (hgd : o.guard = none) (s x : Operand)
    (ho : o.op = .call { callee := .builtin .append, args := #[s, x], argTypes := #[t, t] }) (base : Nat) (w : World) (v : Value) (l : List (Int × Int)) (c d : Int) (q : Nat)
    (hown : Row base e w v l) (hs : a.eval s = v) (hx : a.eval x = .slice (some ⟨q, 0, none⟩) 1 1) (hc : ∀ j u, [Value.int .i64 c, .int .i64 d][j]? = some u → w.cell? ((⟨q, 0, none⟩ : Addr).add j) = some u) (hn : l.length ≤ 1000000000) (hbl : base ≤ w.heap.size)
    (h : ∀ v' w', Row base e w' v' (l ++ [(c, d)]) → (∀ w0, Bl w0 w → w0.heap.size ≤ base → Bl w0 w') → K (a.put o.dst v') w') :
    if Region.wanted o (yielded ops a.tmps) = true then Oper.wp P o a w K Q else E := by
  obtain ⟨i0, hi, hz0, hz1, hz2⟩ := info_parts info
  refine step_append_lies _ hgd s x t ho base e i0 (.agg #[.int .i64 0, .int .i64 0]) 2 16 ht hi hz0 hz1 hz2 rfl (by omega) v l.length _ hs hown ⟨q, 0, none⟩ 1 1 [.int .i64 c, .int .i64 d] hx rfl hc (fun u hu => by simp at hu; rcases hu with rfl | rfl <;> rfl) (by omega) (by unfold maxLen; omega) (by omega) hbl _ rfl ?_
  intro g cap w' h2 h3 _ _
  refine h _ w' ?_ (fun w0 g0 hb => ?_)
  · have e1 : flat (l ++ [(c, d)]) = flat l ++ [.int .i64 c, .int .i64 d] := by rw [flat_app]; rfl
    unfold Row
    rw [e1]
    simpa using h2
  · exact g0.grown h3 fun k hk => by have := (World.ownsRow.lt hown k hk).1; omega
set_option maxRecDepth 100000 in
set_option maxHeartbeats 3200000 in
theorem inverseR (k : Int) (sv : Value) (l : List (Int × Int)) (w : World) (h : PtsAny w sv l) :
    Calls Tryd.prog 31 #[.agg #[.int .i64 k, sv]] w (IvPost k l w) := by
  have HC := Lib.hid (fun w' (g : Bl w w') => checkCurve_ref k sv l w' (h.bl g))
  unfold PCk at HC
  by_cases hck : ckCurve k l = 0
  · obtain ⟨k1, k6⟩ := ck_kind hck
    rw [hck] at HC
    by_cases h6 : k = 6
    · subst h6
      obtain ⟨e1, e2, e3⟩ := iv_ok hck (by decide)
      obtain ⟨b, off, cap, hsv, hP⟩ : ∃ b off cap, sv = .slice (some ⟨b, off, none⟩) l.length cap ∧ Pts w b off l := by
        rcases h with ⟨o, cap, _, rfl⟩ | ⟨b, off, cap, rfl, hP, _⟩
        · exact absurd (ck_tab hck).two (by simp)
        · exact ⟨b, off, cap, rfl, hP⟩
      subst hsv
      have hT := ck_tab hck
      have HP := Lib.hid hP
      have HT := Lib.hid hT
      have HE := Lib.hid e1
      have HK := Lib.hid e2
      have HL := Lib.hid e3
      have hl2 := hT.two
      have hl20 := hT.most
      clear h hck hP hT e1 e2 e3 k1 k6
      go_enter Tryd.func31, Tryd.ntmps31
      go_wp2_with fail
      refine (HC.out _ (((Bl.refl w).alloc _).alloc _)).mono ?_
      rintro e w1 ⟨rfl, g1⟩
      have hs1 : w.heap.size + 1 < w1.heap.size := by have := g1.size; simp at this; omega
      have hs0 : w.heap.size < w1.heap.size := by omega
      have k0 := g1.cell (p := ⟨w.heap.size, 0, none⟩) (v := .int .i64 6) (by simp)
      have k1 := g1.cell (p := ⟨w.heap.size, 1, none⟩) (v := .slice (some ⟨b, off, none⟩) l.length cap) (by simp)
      have k2 := g1.cell (p := ⟨w.heap.size + 1, 0, none⟩) (v := .int .i64 0) (by simp)
      have k3 := g1.cell (p := ⟨w.heap.size + 1, 1, none⟩) (v := .slice none 0 0) (by simp)
      have f0 : w1.frozen? ⟨w.heap.size, 1, none⟩ = false := by rw [g1.frozen (by simp; try omega)]; simp
      have f2 : w1.frozen? ⟨w.heap.size + 1, 0, none⟩ = false := by rw [g1.frozen (by simp; try omega)]; simp
      have f3 : w1.frozen? ⟨w.heap.size + 1, 1, none⟩ = false := by rw [g1.frozen (by simp; try omega)]; simp
      have hbl1 : Bl w w1 := (((Bl.refl w).alloc _).alloc _).trans g1
      have HG1 := Lib.hid g1
      clear g1
      go_wp2_with fail
      obtain ⟨N, hN⟩ : ∃ N, N = l.length := ⟨_, rfl⟩
      go_loopw [5, 6] (fun v i wr => ∃ k : Nat, k ≤ l.length ∧ i = .int .i64 ((k : Int) - 1) ∧ Row w1.heap.size 69 wr v ((invL l).take (l.length - k)) ∧ Bl w1 wr) (fun _ i _ => (intOf i + 1).toNat)
      case atStart => exact ⟨l.length, Nat.le_refl _, rfl, by rw [Nat.sub_self]; exact World.ownsRow_nil _ _ _ _, Bl.refl _⟩
      case round =>
        obtain ⟨k, hk, rfl, hrow, hbl⟩ := hrel
        have HROW := Lib.hid hrow
        clear hrow
        have y0 := hbl.cell k0
        have y1 := hbl.cell k1
        rcases Nat.eq_zero_or_pos k with rfl | hpos
        · have z2 := hbl.cell k2
          have z3 := hbl.cell k3
          have q0 : wr.frozen? ⟨w.heap.size, 1, none⟩ = false := by rw [hbl.frozen hs0]; exact f0
          have q2 : wr.frozen? ⟨w.heap.size + 1, 0, none⟩ = false := by rw [hbl.frozen hs1]; exact f2
          have q3 : wr.frozen? ⟨w.heap.size + 1, 1, none⟩ = false := by rw [hbl.frozen hs1]; exact f3
          obtain ⟨o5, n5, c5, hv⟩ := HROW.out.pts.form
          subst hv
          go_wp2_with fail
          have HV := Lib.hid HROW.out.pts
          obtain ⟨W9, hW9⟩ : ∃ W9, wr.setCell ⟨w.heap.size, 1, none⟩ (.slice o5 n5 c5) = W9 := ⟨_, rfl⟩
          have s2 : W9.cell? ⟨w.heap.size + 1, 0, none⟩ = some (.int .i64 0) := by rw [← hW9]; exact (World.cell?_setCell_other _ ⟨w.heap.size, 1, none⟩ ⟨w.heap.size + 1, 0, none⟩ _ (by intro e; injection e with e1; omega)).trans z2
          have s3 : W9.cell? ⟨w.heap.size + 1, 1, none⟩ = some (.slice none 0 0) := by rw [← hW9]; exact (World.cell?_setCell_other _ ⟨w.heap.size, 1, none⟩ ⟨w.heap.size + 1, 1, none⟩ _ (by intro e; injection e with e1; omega)).trans z3
          have hb9 : Bl w W9 := by rw [← hW9]; exact (hbl1.trans hbl).setCell (p := ⟨w.heap.size, 1, none⟩) (Nat.le_refl _) _
          have hr9 : Row w1.heap.size 69 W9 (.slice o5 n5 c5) ((invL l).take (l.length - 0)) := by rw [← hW9]; exact row_set HROW.out hs0 _
          rw [hW9]
          clear hW9
          obtain ⟨t0, t1⟩ := st2 (.int .i64 6) (.slice o5 n5 c5) s2 s3
          have hb8 : Bl w ((W9.setCell ⟨w.heap.size + 1, 0, none⟩ (.int .i64 6)).setCell ⟨w.heap.size + 1, 1, none⟩ (.slice o5 n5 c5)) := (hb9.setCell (p := ⟨w.heap.size + 1, 0, none⟩) (Nat.le_succ _) _).setCell (p := ⟨w.heap.size + 1, 1, none⟩) (Nat.le_succ _) _
          have hr8 := (row_set (j := 1) (row_set (j := 0) hr9 hs1 (.int .i64 6)) hs1 (.slice o5 n5 c5)).pts
          rw [Nat.sub_zero, List.take_of_length_le (by rw [inv_len]; exact Nat.le_refl _)] at hr8
          have T0 := Lib.hid t0
          have T1 := Lib.hid t1
          have B8 := Lib.hid hb8
          have R8 := Lib.hid hr8
          refine bodyPost_ret (v := .tuple #[.agg #[.int .i64 6, .slice o5 n5 c5], .int .i64 0]) (by simp [results, Tryd.results31, go_sem, T0.out, T1.out]) rfl ⟨.slice o5 n5 c5, by rw [HE.out, HK.out]; rfl, by rw [HL.out]; simpa using R8.out, B8.out⟩
        · obtain ⟨m, rfl⟩ : ∃ m, k = m + 1 := ⟨k - 1, by omega⟩
          have hlt : m < l.length := by omega
          have e1 : ((m + 1 : Nat) : Int) - 1 = (m : Int) := by omega
          rw [e1]
          clear e1
          obtain ⟨p0, p1⟩ := HP.out.bl (hbl1.trans hbl) m hlt
          obtain ⟨r0, r1, r2, r3⟩ := HT.out.range m hlt
          have HTK := Lib.hid (inv_take l m hlt)
          generalize hpt : l[m]?.getD (0, 0) = pt at *
          obtain ⟨c, d⟩ := pt
          clear hpt
          have r0 : 0 ≤ c := r0
          have r1 : c ≤ 1000 := r1
          have r2 : 0 ≤ d := r2
          have r3 : d ≤ 1000 := r3
          have p0 : wr.cell? ⟨b, off + m * 2, none⟩ = some (.int .i64 c) := p0
          have p1 : wr.cell? ⟨b, off + m * 2 + 1, none⟩ = some (.int .i64 d) := p1
          have HW1 := Lib.hid (show IntKind.i64.wrap (1000 - c) = 1000 - c from IntWalk.i64_in _ (by omega))
          have HW2 := Lib.hid (show IntKind.i64.wrap (1000 - d) = 1000 - d from IntWalk.i64_in _ (by omega))
          have b1 : (0 : Int) ≤ (m : Int) := by omega
          have b2 : (m : Int) < (l.length : Int) := by omega
          have hlen : ((invL l).take (l.length - (m + 1))).length ≤ 1000000000 := by rw [List.length_take]; omega
          have hb9 := hbl.size
          go_wp2_with fail
          go_region_law ((refine step_pair Tryd.underlying22 infoR (by rfl) _ _ (by rfl) w1.heap.size _ _ _ (1000 - c) (1000 - d) _ (Row.bl HROW.out (by ((repeat (first | with_reducible exact Bl.refl _ | with_reducible assumption | with_reducible refine Bl.drew ?_ | with_reducible refine Bl.alloc ?_ _ | with_reducible refine Bl.trans ?_ (by assumption))); done))) (by rfl) (by rfl) (by rw [HW1.out, HW2.out]; exact cell_two_new _ _ _ _) hlen (Bl.size (by ((repeat (first | with_reducible exact Bl.refl _ | with_reducible assumption | with_reducible refine Bl.drew ?_ | with_reducible refine Bl.alloc ?_ _ | with_reducible refine Bl.trans ?_ (by assumption))); done))) ?_; intro v' w3 hrow3 hbl3; have HR3 := Lib.hid hrow3; have HB3 := Lib.hid (hbl3 w1 (by ((repeat (first | with_reducible exact Bl.refl _ | with_reducible assumption | with_reducible refine Bl.drew ?_ | with_reducible refine Bl.alloc ?_ _ | with_reducible refine Bl.trans ?_ (by assumption))); done)) (Nat.le_refl _)); clear hrow3 hbl3))
          all_goals
            go_wp2_with fail
            go_roundw
            case rel => exact ⟨m, by omega, by go_num, by rw [HTK.out]; exact HR3.out, HB3.out⟩
            case measure => simp [intOf]
    · have hl := ck_empty hck h6
      subst hl
      obtain ⟨o, cap, hsv⟩ : ∃ o cap, sv = .slice o 0 cap := by
        rcases h with ⟨o, cap, rfl, _⟩ | ⟨b, off, cap, rfl, _⟩
        · exact ⟨_, _, rfl⟩
        · exact ⟨_, _, rfl⟩
      subst hsv
      by_cases h5 : k = 5
      · subst h5
        obtain ⟨e1, e2, e3⟩ := iv_five hck
        have HE := Lib.hid e1
        have HK := Lib.hid e2
        have HL := Lib.hid e3
        clear hck h6 e1 e2 e3 h
        go_enter Tryd.func31, Tryd.ntmps31
        go_wp2_with fail
        refine (HC.out _ (((Bl.refl w).alloc _).alloc _)).mono ?_
        rintro e w1 ⟨rfl, g1⟩
        have hs1 : w.heap.size + 1 < w1.heap.size := by have := g1.size; simp at this; omega
        have hs0 : w.heap.size < w1.heap.size := by omega
        have k0 := g1.cell (p := ⟨w.heap.size, 0, none⟩) (v := .int .i64 5) (by simp)
        have k1 := g1.cell (p := ⟨w.heap.size, 1, none⟩) (v := .slice o 0 cap) (by simp)
        have k2 := g1.cell (p := ⟨w.heap.size + 1, 0, none⟩) (v := .int .i64 0) (by simp)
        have k3 := g1.cell (p := ⟨w.heap.size + 1, 1, none⟩) (v := .slice none 0 0) (by simp)
        have f2 := g1.frozen (p := ⟨w.heap.size + 1, 0, none⟩) (by simp)
        have f3 := g1.frozen (p := ⟨w.heap.size + 1, 1, none⟩) (by simp)
        have hbl1 : Bl w w1 := (((Bl.refl w).alloc _).alloc _).trans g1
        obtain ⟨z0, z1⟩ := st2 (.int .i64 0) (.slice none 0 0) k2 k3
        have hb5 : Bl w ((w1.setCell ⟨w.heap.size + 1, 0, none⟩ (.int .i64 0)).setCell ⟨w.heap.size + 1, 1, none⟩ (.slice none 0 0)) := (hbl1.setCell (p := ⟨w.heap.size + 1, 0, none⟩) (Nat.le_succ _) _).setCell (p := ⟨w.heap.size + 1, 1, none⟩) (Nat.le_succ _) _
        have Y0 := Lib.hid z0
        have Y1 := Lib.hid z1
        have B5 := Lib.hid hb5
        clear z0 z1 hb5 hbl1
        go_wp2_with fail
        refine bodyPost_ret (v := .tuple #[.agg #[.int .i64 0, .slice none 0 0], .int .i64 3]) (by simp [results, Tryd.results31, go_sem, Y0.out, Y1.out]) rfl ⟨.slice none 0 0, by rw [HE.out, HK.out], by rw [HL.out]; exact Or.inl ⟨_, _, rfl, rfl⟩, B5.out⟩
      · obtain ⟨e1, e2, e3⟩ := iv_ok hck h5
        rw [if_neg h6] at e3
        have HE := Lib.hid e1
        have HK := Lib.hid e2
        have HL := Lib.hid e3
        have hk : k = 1 ∨ k = 2 ∨ k = 3 ∨ k = 4 := by omega
        clear hck h6 h5 e1 e2 e3 h k1 k6
        rcases hk with rfl | rfl | rfl | rfl
        · go_enter Tryd.func31, Tryd.ntmps31
          go_wp2_with fail
          refine (HC.out _ (((Bl.refl w).alloc _).alloc _)).mono ?_
          rintro e w1 ⟨rfl, g1⟩
          have hs1 : w.heap.size + 1 < w1.heap.size := by have := g1.size; simp at this; omega
          have hs0 : w.heap.size < w1.heap.size := by omega
          have k0 := g1.cell (p := ⟨w.heap.size, 0, none⟩) (v := .int .i64 1) (by simp)
          have k1 := g1.cell (p := ⟨w.heap.size, 1, none⟩) (v := .slice o 0 cap) (by simp)
          have k2 := g1.cell (p := ⟨w.heap.size + 1, 0, none⟩) (v := .int .i64 0) (by simp)
          have k3 := g1.cell (p := ⟨w.heap.size + 1, 1, none⟩) (v := .slice none 0 0) (by simp)
          have f0 : w1.frozen? ⟨w.heap.size, 1, none⟩ = false := by rw [g1.frozen (by simp; try omega)]; simp
          have f1 : w1.frozen? ⟨w.heap.size, 0, none⟩ = false := by rw [g1.frozen (by simp; try omega)]; simp
          have f2 : w1.frozen? ⟨w.heap.size + 1, 0, none⟩ = false := by rw [g1.frozen (by simp; try omega)]; simp
          have f3 : w1.frozen? ⟨w.heap.size + 1, 1, none⟩ = false := by rw [g1.frozen (by simp; try omega)]; simp
          have hbl1 : Bl w w1 := (((Bl.refl w).alloc _).alloc _).trans g1
          go_wp2_with fail
          refine wp_loop_rounds 1 ?_
          rw [rounds_succ]
          go_wp2_with fail
          have s2 : (w1.setCell ⟨w.heap.size, 1, none⟩ (.slice none 0 0)).cell? ⟨w.heap.size + 1, 0, none⟩ = some (.int .i64 0) := (World.cell?_setCell_other _ ⟨w.heap.size, 1, none⟩ ⟨w.heap.size + 1, 0, none⟩ _ (by intro e; injection e with e1; omega)).trans k2
          have s3 : (w1.setCell ⟨w.heap.size, 1, none⟩ (.slice none 0 0)).cell? ⟨w.heap.size + 1, 1, none⟩ = some (.slice none 0 0) := (World.cell?_setCell_other _ ⟨w.heap.size, 1, none⟩ ⟨w.heap.size + 1, 1, none⟩ _ (by intro e; injection e with e1; omega)).trans k3
          have hb9 : Bl w (w1.setCell ⟨w.heap.size, 1, none⟩ (.slice none 0 0)) := hbl1.setCell (p := ⟨w.heap.size, 1, none⟩) (Nat.le_refl _) _
          obtain ⟨t0, t1⟩ := st2 (.int .i64 1) (.slice none 0 0) s2 s3
          have hb8 := (hb9.setCell (p := ⟨w.heap.size + 1, 0, none⟩) (Nat.le_succ _) (.int .i64 1)).setCell (p := ⟨w.heap.size + 1, 1, none⟩) (Nat.le_succ _) (.slice none 0 0)
          have T0 := Lib.hid t0
          have T1 := Lib.hid t1
          have B8 := Lib.hid hb8
          refine bodyPost_ret (v := .tuple #[.agg #[.int .i64 1, .slice none 0 0], .int .i64 0]) (by simp [results, Tryd.results31, go_sem, T0.out, T1.out]) rfl ⟨.slice none 0 0, by rw [HE.out, HK.out]; rfl, by rw [HL.out]; exact Or.inl ⟨_, _, rfl, rfl⟩, B8.out⟩
        · go_enter Tryd.func31, Tryd.ntmps31
          go_wp2_with fail
          refine (HC.out _ (((Bl.refl w).alloc _).alloc _)).mono ?_
          rintro e w1 ⟨rfl, g1⟩
          have hs1 : w.heap.size + 1 < w1.heap.size := by have := g1.size; simp at this; omega
          have hs0 : w.heap.size < w1.heap.size := by omega
          have k0 := g1.cell (p := ⟨w.heap.size, 0, none⟩) (v := .int .i64 2) (by simp)
          have k1 := g1.cell (p := ⟨w.heap.size, 1, none⟩) (v := .slice o 0 cap) (by simp)
          have k2 := g1.cell (p := ⟨w.heap.size + 1, 0, none⟩) (v := .int .i64 0) (by simp)
          have k3 := g1.cell (p := ⟨w.heap.size + 1, 1, none⟩) (v := .slice none 0 0) (by simp)
          have f0 : w1.frozen? ⟨w.heap.size, 1, none⟩ = false := by rw [g1.frozen (by simp; try omega)]; simp
          have f1 : w1.frozen? ⟨w.heap.size, 0, none⟩ = false := by rw [g1.frozen (by simp; try omega)]; simp
          have f2 : w1.frozen? ⟨w.heap.size + 1, 0, none⟩ = false := by rw [g1.frozen (by simp; try omega)]; simp
          have f3 : w1.frozen? ⟨w.heap.size + 1, 1, none⟩ = false := by rw [g1.frozen (by simp; try omega)]; simp
          have hbl1 : Bl w w1 := (((Bl.refl w).alloc _).alloc _).trans g1
          go_wp2_with fail
          refine wp_loop_rounds 1 ?_
          rw [rounds_succ]
          go_wp2_with fail
          have s2 : ((w1.setCell ⟨w.heap.size, 0, none⟩ (.int .i64 3)).setCell ⟨w.heap.size, 1, none⟩ (.slice none 0 0)).cell? ⟨w.heap.size + 1, 0, none⟩ = some (.int .i64 0) := (World.cell?_setCell_other _ ⟨w.heap.size, 1, none⟩ ⟨w.heap.size + 1, 0, none⟩ _ (by intro e; injection e with e1; omega)).trans ((World.cell?_setCell_other _ ⟨w.heap.size, 0, none⟩ ⟨w.heap.size + 1, 0, none⟩ _ (by intro e; injection e with e1; omega)).trans k2)
          have s3 : ((w1.setCell ⟨w.heap.size, 0, none⟩ (.int .i64 3)).setCell ⟨w.heap.size, 1, none⟩ (.slice none 0 0)).cell? ⟨w.heap.size + 1, 1, none⟩ = some (.slice none 0 0) := (World.cell?_setCell_other _ ⟨w.heap.size, 1, none⟩ ⟨w.heap.size + 1, 1, none⟩ _ (by intro e; injection e with e1; omega)).trans ((World.cell?_setCell_other _ ⟨w.heap.size, 0, none⟩ ⟨w.heap.size + 1, 1, none⟩ _ (by intro e; injection e with e1; omega)).trans k3)
          have hb9 : Bl w ((w1.setCell ⟨w.heap.size, 0, none⟩ (.int .i64 3)).setCell ⟨w.heap.size, 1, none⟩ (.slice none 0 0)) := (hbl1.setCell (p := ⟨w.heap.size, 0, none⟩) (Nat.le_refl _) _).setCell (p := ⟨w.heap.size, 1, none⟩) (Nat.le_refl _) _
          obtain ⟨t0, t1⟩ := st2 (.int .i64 3) (.slice none 0 0) s2 s3
          have hb8 := (hb9.setCell (p := ⟨w.heap.size + 1, 0, none⟩) (Nat.le_succ _) (.int .i64 3)).setCell (p := ⟨w.heap.size + 1, 1, none⟩) (Nat.le_succ _) (.slice none 0 0)
          have T0 := Lib.hid t0
          have T1 := Lib.hid t1
          have B8 := Lib.hid hb8
          refine bodyPost_ret (v := .tuple #[.agg #[.int .i64 3, .slice none 0 0], .int .i64 0]) (by simp [results, Tryd.results31, go_sem, T0.out, T1.out]) rfl ⟨.slice none 0 0, by rw [HE.out, HK.out]; rfl, by rw [HL.out]; exact Or.inl ⟨_, _, rfl, rfl⟩, B8.out⟩
        · go_enter Tryd.func31, Tryd.ntmps31
          go_wp2_with fail
          refine (HC.out _ (((Bl.refl w).alloc _).alloc _)).mono ?_
          rintro e w1 ⟨rfl, g1⟩
          have hs1 : w.heap.size + 1 < w1.heap.size := by have := g1.size; simp at this; omega
          have hs0 : w.heap.size < w1.heap.size := by omega
          have k0 := g1.cell (p := ⟨w.heap.size, 0, none⟩) (v := .int .i64 3) (by simp)
          have k1 := g1.cell (p := ⟨w.heap.size, 1, none⟩) (v := .slice o 0 cap) (by simp)
          have k2 := g1.cell (p := ⟨w.heap.size + 1, 0, none⟩) (v := .int .i64 0) (by simp)
          have k3 := g1.cell (p := ⟨w.heap.size + 1, 1, none⟩) (v := .slice none 0 0) (by simp)
          have f0 : w1.frozen? ⟨w.heap.size, 1, none⟩ = false := by rw [g1.frozen (by simp; try omega)]; simp
          have f1 : w1.frozen? ⟨w.heap.size, 0, none⟩ = false := by rw [g1.frozen (by simp; try omega)]; simp
          have f2 : w1.frozen? ⟨w.heap.size + 1, 0, none⟩ = false := by rw [g1.frozen (by simp; try omega)]; simp
          have f3 : w1.frozen? ⟨w.heap.size + 1, 1, none⟩ = false := by rw [g1.frozen (by simp; try omega)]; simp
          have hbl1 : Bl w w1 := (((Bl.refl w).alloc _).alloc _).trans g1
          go_wp2_with fail
          refine wp_loop_rounds 1 ?_
          rw [rounds_succ]
          go_wp2_with fail
          have s2 : ((w1.setCell ⟨w.heap.size, 0, none⟩ (.int .i64 2)).setCell ⟨w.heap.size, 1, none⟩ (.slice none 0 0)).cell? ⟨w.heap.size + 1, 0, none⟩ = some (.int .i64 0) := (World.cell?_setCell_other _ ⟨w.heap.size, 1, none⟩ ⟨w.heap.size + 1, 0, none⟩ _ (by intro e; injection e with e1; omega)).trans ((World.cell?_setCell_other _ ⟨w.heap.size, 0, none⟩ ⟨w.heap.size + 1, 0, none⟩ _ (by intro e; injection e with e1; omega)).trans k2)
          have s3 : ((w1.setCell ⟨w.heap.size, 0, none⟩ (.int .i64 2)).setCell ⟨w.heap.size, 1, none⟩ (.slice none 0 0)).cell? ⟨w.heap.size + 1, 1, none⟩ = some (.slice none 0 0) := (World.cell?_setCell_other _ ⟨w.heap.size, 1, none⟩ ⟨w.heap.size + 1, 1, none⟩ _ (by intro e; injection e with e1; omega)).trans ((World.cell?_setCell_other _ ⟨w.heap.size, 0, none⟩ ⟨w.heap.size + 1, 1, none⟩ _ (by intro e; injection e with e1; omega)).trans k3)
          have hb9 : Bl w ((w1.setCell ⟨w.heap.size, 0, none⟩ (.int .i64 2)).setCell ⟨w.heap.size, 1, none⟩ (.slice none 0 0)) := (hbl1.setCell (p := ⟨w.heap.size, 0, none⟩) (Nat.le_refl _) _).setCell (p := ⟨w.heap.size, 1, none⟩) (Nat.le_refl _) _
          obtain ⟨t0, t1⟩ := st2 (.int .i64 2) (.slice none 0 0) s2 s3
          have hb8 := (hb9.setCell (p := ⟨w.heap.size + 1, 0, none⟩) (Nat.le_succ _) (.int .i64 2)).setCell (p := ⟨w.heap.size + 1, 1, none⟩) (Nat.le_succ _) (.slice none 0 0)
          have T0 := Lib.hid t0
          have T1 := Lib.hid t1
          have B8 := Lib.hid hb8
          refine bodyPost_ret (v := .tuple #[.agg #[.int .i64 2, .slice none 0 0], .int .i64 0]) (by simp [results, Tryd.results31, go_sem, T0.out, T1.out]) rfl ⟨.slice none 0 0, by rw [HE.out, HK.out]; rfl, by rw [HL.out]; exact Or.inl ⟨_, _, rfl, rfl⟩, B8.out⟩
        · go_enter Tryd.func31, Tryd.ntmps31
          go_wp2_with fail
          refine (HC.out _ (((Bl.refl w).alloc _).alloc _)).mono ?_
          rintro e w1 ⟨rfl, g1⟩
          have hs1 : w.heap.size + 1 < w1.heap.size := by have := g1.size; simp at this; omega
          have hs0 : w.heap.size < w1.heap.size := by omega
          have k0 := g1.cell (p := ⟨w.heap.size, 0, none⟩) (v := .int .i64 4) (by simp)
          have k1 := g1.cell (p := ⟨w.heap.size, 1, none⟩) (v := .slice o 0 cap) (by simp)
          have k2 := g1.cell (p := ⟨w.heap.size + 1, 0, none⟩) (v := .int .i64 0) (by simp)
          have k3 := g1.cell (p := ⟨w.heap.size + 1, 1, none⟩) (v := .slice none 0 0) (by simp)
          have f0 : w1.frozen? ⟨w.heap.size, 1, none⟩ = false := by rw [g1.frozen (by simp; try omega)]; simp
          have f1 : w1.frozen? ⟨w.heap.size, 0, none⟩ = false := by rw [g1.frozen (by simp; try omega)]; simp
          have f2 : w1.frozen? ⟨w.heap.size + 1, 0, none⟩ = false := by rw [g1.frozen (by simp; try omega)]; simp
          have f3 : w1.frozen? ⟨w.heap.size + 1, 1, none⟩ = false := by rw [g1.frozen (by simp; try omega)]; simp
          have hbl1 : Bl w w1 := (((Bl.refl w).alloc _).alloc _).trans g1
          go_wp2_with fail
          refine wp_loop_rounds 1 ?_
          rw [rounds_succ]
          go_wp2_with fail
          have s2 : (w1.setCell ⟨w.heap.size, 1, none⟩ (.slice none 0 0)).cell? ⟨w.heap.size + 1, 0, none⟩ = some (.int .i64 0) := (World.cell?_setCell_other _ ⟨w.heap.size, 1, none⟩ ⟨w.heap.size + 1, 0, none⟩ _ (by intro e; injection e with e1; omega)).trans k2
          have s3 : (w1.setCell ⟨w.heap.size, 1, none⟩ (.slice none 0 0)).cell? ⟨w.heap.size + 1, 1, none⟩ = some (.slice none 0 0) := (World.cell?_setCell_other _ ⟨w.heap.size, 1, none⟩ ⟨w.heap.size + 1, 1, none⟩ _ (by intro e; injection e with e1; omega)).trans k3
          have hb9 : Bl w (w1.setCell ⟨w.heap.size, 1, none⟩ (.slice none 0 0)) := hbl1.setCell (p := ⟨w.heap.size, 1, none⟩) (Nat.le_refl _) _
          obtain ⟨t0, t1⟩ := st2 (.int .i64 4) (.slice none 0 0) s2 s3
          have hb8 := (hb9.setCell (p := ⟨w.heap.size + 1, 0, none⟩) (Nat.le_succ _) (.int .i64 4)).setCell (p := ⟨w.heap.size + 1, 1, none⟩) (Nat.le_succ _) (.slice none 0 0)
          have T0 := Lib.hid t0
          have T1 := Lib.hid t1
          have B8 := Lib.hid hb8
          refine bodyPost_ret (v := .tuple #[.agg #[.int .i64 4, .slice none 0 0], .int .i64 0]) (by simp [results, Tryd.results31, go_sem, T0.out, T1.out]) rfl ⟨.slice none 0 0, by rw [HE.out, HK.out]; rfl, by rw [HL.out]; exact Or.inl ⟨_, _, rfl, rfl⟩, B8.out⟩
  · obtain ⟨e1, e2, e3⟩ := iv_ck hck
    obtain ⟨o, ln, cap, hsv⟩ : ∃ o ln cap, sv = .slice o ln cap := by
      rcases h with ⟨o, cap, rfl, _⟩ | ⟨b, off, cap, rfl, _⟩
      · exact ⟨_, _, _, rfl⟩
      · exact ⟨_, _, _, rfl⟩
    subst hsv
    have HE := Lib.hid e1
    have HK := Lib.hid e2
    have HL := Lib.hid e3
    have hne : (ckCurve k l != 0) = true := by simpa using hck
    clear hck e1 e2 e3 h
    generalize ckCurve k l = cc at *
    go_enter Tryd.func31, Tryd.ntmps31
    go_wp2_with fail
    refine (HC.out _ (((Bl.refl w).alloc _).alloc _)).mono ?_
    rintro e w1 ⟨rfl, g1⟩
    have hs1 : w.heap.size + 1 < w1.heap.size := by have := g1.size; simp at this; omega
    have hs0 : w.heap.size < w1.heap.size := by omega
    have k2 := g1.cell (p := ⟨w.heap.size + 1, 0, none⟩) (v := .int .i64 0) (by simp)
    have k3 := g1.cell (p := ⟨w.heap.size + 1, 1, none⟩) (v := .slice none 0 0) (by simp)
    have f2 := g1.frozen (p := ⟨w.heap.size + 1, 0, none⟩) (by simp)
    have f3 := g1.frozen (p := ⟨w.heap.size + 1, 1, none⟩) (by simp)
    have hbl1 : Bl w w1 := (((Bl.refl w).alloc _).alloc _).trans g1
    obtain ⟨z0, z1⟩ := st2 (.int .i64 0) (.slice none 0 0) k2 k3
    have hb5 : Bl w ((w1.setCell ⟨w.heap.size + 1, 0, none⟩ (.int .i64 0)).setCell ⟨w.heap.size + 1, 1, none⟩ (.slice none 0 0)) := (hbl1.setCell (p := ⟨w.heap.size + 1, 0, none⟩) (Nat.le_succ _) _).setCell (p := ⟨w.heap.size + 1, 1, none⟩) (Nat.le_succ _) _
    have Y0 := Lib.hid z0
    have Y1 := Lib.hid z1
    have B5 := Lib.hid hb5
    clear z0 z1 hb5 hbl1
    go_wp2_with fail
    refine bodyPost_ret (v := .tuple #[.agg #[.int .i64 0, .slice none 0 0], .int .i64 cc]) (by simp [results, Tryd.results31, go_sem, Y0.out, Y1.out]) rfl ⟨.slice none 0 0, by rw [HE.out, HK.out], by rw [HL.out]; exact Or.inl ⟨_, _, rfl, rfl⟩, B5.out⟩
end Go.Proofs.YtfeeolfekfkdiaaDoor
