/- Copies of a curve's points: copied of the program. -/
import Derived.Test.YtbmficaefnkepaaDoorPairs
import Derived.Deep.AppendLies
import Derived.Deep.RegionHeld3
namespace Go.Proofs.YtbmficaefnkepaaDoor
open Go.RowKit

theorem infoPt : (Tryd.prog.info? 73).map (fun i => (i.zero, i.size, i.bytes)) = some (some (.agg #[.int .i64 0, .int .i64 0]), 2, 16) := by kernel_rfl
theorem flat_one : ∀ (l : List (Int × Int)), ∀ u ∈ flat l, u.oneCell' = true
  | [], u, h => by cases h
  | p :: r, u, h => by
    simp only [flat, List.mem_cons] at h
    rcases h with rfl | rfl | h
    · rfl
    · rfl
    · exact flat_one r u h
theorem flat_at {w : World} {b off : Nat} {l : List (Int × Int)} (h : Pts w b off l) : ∀ j u, (flat l)[j]? = some u → w.cell? ((⟨b, off, none⟩ : Addr).add j) = some u := by
  intro j u hj
  rw [Go.WideShapes.add_plain]
  have hlt : j < l.length * 2 := by
    have := (List.getElem?_eq_some_iff.1 hj).1
    rwa [flat_len] at this
  obtain ⟨h1, h2⟩ := flat_get l (j / 2) (by omega)
  obtain ⟨g1, g2⟩ := h (j / 2) (by omega)
  rcases Nat.mod_two_eq_zero_or_one j with hm | hm
  · rw [show j / 2 * 2 = j by omega] at h1 g1
    rw [h1] at hj
    rw [← hj]; exact g1
  · rw [show j / 2 * 2 + 1 = j by omega] at h2
    rw [show off + j / 2 * 2 + 1 = off + j by omega] at g2
    rw [h2] at hj
    rw [← hj]; exact g2

/-- v reads as l, from a block that is not older than base. -/
def PtsN (base : Nat) (w : World) (sv : Value) (l : List (Int × Int)) : Prop := (∃ o cap, sv = .slice o 0 cap ∧ l = []) ∨ ∃ b off cap, sv = .slice (some ⟨b, off, none⟩) l.length cap ∧ (base ≤ b ∧ Pts w b off l) ∧ l.length ≤ 9223372036854775807
theorem PtsN.any {base : Nat} {w : World} {sv : Value} {l : List (Int × Int)} (h : PtsN base w sv l) : PtsAny w sv l := by
  rcases h with h | ⟨b, off, cap, h1, h2, h3⟩
  · exact Or.inl h
  · exact Or.inr ⟨b, off, cap, h1, h2.2, h3⟩
theorem PtsN.bl {base : Nat} {w w' : World} {sv : Value} {l : List (Int × Int)} (h : PtsN base w sv l) (g : Bl w w') : PtsN base w' sv l := by
  rcases h with h | ⟨b, off, cap, h1, h2, h3⟩
  · exact Or.inl h
  · exact Or.inr ⟨b, off, cap, h1, ⟨h2.1, h2.2.bl g⟩, h3⟩
theorem PtsN.mono {base base' : Nat} {w : World} {sv : Value} {l : List (Int × Int)} (h : PtsN base w sv l) (hb : base' ≤ base) : PtsN base' w sv l := by
  rcases h with h | ⟨b, off, cap, h1, h2, h3⟩
  · exact Or.inl h
  · exact Or.inr ⟨b, off, cap, h1, ⟨Nat.le_trans hb h2.1, h2.2⟩, h3⟩
theorem PtsN.set {base : Nat} {w : World} {sv : Value} {l : List (Int × Int)} (h : PtsN base w sv l) {b j : Nat} (hb : b < base) (u : Value) : PtsN base (w.setCell ⟨b, j, none⟩ u) sv l := by
  rcases h with h | ⟨c, off, cap, h1, h2, h3⟩
  · exact Or.inl h
  · refine Or.inr ⟨c, off, cap, h1, ⟨h2.1, fun i hi => ?_⟩, h3⟩
    obtain ⟨g1, g2⟩ := h2.2 i hi
    have hne : ∀ k, (⟨c, k, none⟩ : Addr) ≠ ⟨b, j, none⟩ := fun k he => by
      injection he with h4 _ _
      have := h2.1
      omega
    exact ⟨by rw [World.cell?_setCell_other _ _ _ _ (Ne.symm (hne _))]; exact g1, by rw [World.cell?_setCell_other _ _ _ _ (Ne.symm (hne _))]; exact g2⟩
theorem ptsN_own {base : Nat} {e : TypeId} {w : World} {g cap n : Nat} {l : List (Int × Int)} (h : w.ownsRow base e 2 (.slice (some ⟨g, 0, none⟩) (0 + l.length) cap) n ([] ++ flat l)) (hn : n = 0 + l.length) : PtsN base w (.slice (some ⟨g, 0, none⟩) (0 + l.length) cap) l := by
  subst hn
  rw [Nat.zero_add, List.nil_append] at *
  have hr : Row base e w (.slice (some ⟨g, 0, none⟩) l.length cap) l := h
  rcases hr.pts with h1 | ⟨b, off, cap', h1, h2, h3⟩
  · exact Or.inl h1
  · have hg := (World.ownsRow.lt hr g rfl).1
    injection h1 with h4 h5 h6
    injection h4 with h4
    injection h4 with h7 h8 _
    subst h7 h8 h6
    exact Or.inr ⟨g, 0, cap, rfl, ⟨hg, h2⟩, h3⟩

theorem own2n {W W' : World} {n : Nat} {a b : Value} {t : TypeId} (hn : n = W.heap.size) (h : Bl (W.alloc (.cells #[a, b] t)) W') :
    (W'.cell? ⟨n, 0, none⟩ = some a ∧ W'.cell? ⟨n, 1, none⟩ = some b) ∧ W'.frozen? ⟨n, 0, none⟩ = false ∧ W'.frozen? ⟨n, 1, none⟩ = false := by
  subst hn
  exact ⟨box2 rfl h, by rw [h.frozen (by simp)]; simp, by rw [h.frozen (by simp)]; simp⟩
theorem Bl.unfrozen {w w' : World} (h : Bl w w') {p : Addr} (hp : p.block < w.heap.size) (hf : w.frozen? p = false) : w'.frozen? p = false := by rw [h.frozen hp]; exact hf
theorem Bl.grew {a w w' : World} (h : Bl a w) (hg : w.grownBy w' none) : Bl a w' := h.grown hg (fun _ hk => by cases hk)
theorem app_empty {P : Program} (t ty e : TypeId) (i : TypeInfo) (ht : P.underlying t = some (.slice e)) (hi : P.info? e = some i) (o1 o2 : Option Addr) (c2 : Nat) (w : World) :
    (Builtin.append_ #[t, t] ty #[.slice o1 0 0, .slice o2 0 c2]).run P w = .ok (.slice o1 0 0) w := by
  cases o1 <;> cases o2 <;> simp [Builtin.append_, run_underlying ht, sizeOf, typeInfo, hi, Builtin.lenOf, Builtin.firstCells, storeCells, loadCells, loadCellsFrom]

/-- 'append' of nothing to nothing, in a region that draws its order. -/
theorem step_app_empty {P : Program} {ops : Array Oper} {o : Oper} {a : Act} (w : World) {K : Act → World → Prop} {Q : Exit → Act → World → Prop} {E : Prop} (hgd : o.guard = none) (s x : Operand) (t : TypeId)
    (ho : o.op = .call { callee := .builtin .append, args := #[s, x], argTypes := #[t, t] }) (e : TypeId) (i : TypeInfo) (ht : P.underlying t = some (.slice e)) (hi : P.info? e = some i) (o1 o2 : Option Addr) (c2 : Nat)
    (hs : a.eval s = .slice o1 0 0) (hx : a.eval x = .slice o2 0 c2) (hK : K (a.put o.dst (.slice o1 0 0)) w) :
    if Region.wanted o (yielded ops a.tmps) = true then Oper.wp P o a w K Q else E := by
  have hw : Region.wanted o (yielded ops a.tmps) = true := by simp [Region.wanted, hgd]
  rw [if_pos hw]
  have hrun := app_empty (P := P) t o.type e i ht hi o1 o2 c2 w
  unfold Oper.wp
  simp [execOp, ho, resolve, invoke, builtin, hs, hx, hrun, Result.andThen]
  exact hK

set_option maxHeartbeats 1600000 in
theorem copied_pts (k : Int) (b off cap : Nat) (l : List (Int × Int)) (w : World) (h : Pts w b off l) (hl : l.length ≤ 20) (h0 : 0 < l.length) :
    Calls Tryd.prog 19 #[.agg #[.int .i64 k, .slice (some ⟨b, off, none⟩) l.length cap]] w fun e w' => ∃ sv', e = .returned (.agg #[.int .i64 k, sv']) ∧ PtsN w.heap.size w' sv' l ∧ Bl w w' := by
  obtain ⟨i0, hi, hz0, hz1, hz2⟩ := info_parts infoPt
  have H := Lib.hid h
  clear h
  go_enter Tryd.func19, Tryd.ntmps19
  go_wp2_with fail
  obtain ⟨W1, hW1⟩ : ∃ W1, W1 = w.alloc (.cells #[.int .i64 k, .slice (some ⟨b, off, none⟩) l.length cap] 24) := ⟨_, rfl⟩
  rw [← hW1]
  obtain ⟨⟨k0, k1⟩, _, _⟩ := own2n (W := w) (W' := W1) rfl (by rw [hW1]; exact Bl.refl _)
  have hb1 : Bl w W1 := by rw [hW1]; exact (Bl.refl w).alloc _
  have hs1 : W1.heap.size = w.heap.size + 1 := by rw [hW1]; simp
  obtain ⟨W0, hW0⟩ : ∃ W0, W0 = W1.alloc (.cells #[.int .i64 0, .slice none 0 0] 24) := ⟨_, rfl⟩
  rw [← hW0]
  obtain ⟨⟨z0, z1⟩, f0, f1⟩ := own2n (W := W1) (W' := W0) (n := w.heap.size + 1) hs1.symm (by rw [hW0]; exact Bl.refl _)
  have hb10 : Bl W1 W0 := by rw [hW0]; exact (Bl.refl _).alloc _
  have hs0 : W0.heap.size = w.heap.size + 2 := by rw [hW0, World.size_alloc, hs1]
  have hs1' : W1.heap.size ≤ w.heap.size + 1 := by omega
  have H0 := Lib.hid (H.out.bl (hb1.trans hb10))
  have HB1 := Lib.hid hb1
  clear hW0 hW1 H hb1
  have hb2 : (0 + l.length) * 16 ≤ 140737488355328 := by omega
  have hm2 : 0 + l.length ≤ maxLen := by unfold maxLen; omega
  go_region_held3 (fun w' => w'.cell? ⟨w.heap.size, 0, none⟩ = some (.int .i64 k) ∧ w'.cell? ⟨w.heap.size, 1, none⟩ = some (.slice (some ⟨b, off, none⟩) l.length cap))
    (refine ⟨Bl.cell (w := W1) ?_ k0, Bl.cell (w := W1) ?_ k1⟩ <;> ((repeat (first | with_reducible exact Bl.refl _ | with_reducible assumption | with_reducible refine Bl.drew ?_ | with_reducible refine Bl.setCell ?_ hs1' _ | with_reducible refine Bl.trans ?_ (by assumption))); done))
    ((refine step_append_lies _ (by rfl) _ _ _ (by rfl) W0.heap.size _ i0 (.agg #[.int .i64 0, .int .i64 0]) 2 16 Tryd.underlying22 hi hz0 hz1 hz2 (by rfl) (by omega) (.slice none 0 0) 0 [] (by rfl) (World.ownsRow_nil _ _ _ _) ⟨b, off, none⟩ l.length cap (flat l) (by rfl) (flat_len l) (flat_at (H0.out.bl (by ((repeat (first | with_reducible exact Bl.refl _ | with_reducible assumption | with_reducible refine Bl.drew ?_ | with_reducible refine Bl.alloc ?_ _ | with_reducible refine Bl.trans ?_ (by assumption))); done)))) (flat_one l) h0 hm2 hb2 (Bl.size (by ((repeat (first | with_reducible exact Bl.refl _ | with_reducible assumption | with_reducible refine Bl.drew ?_ | with_reducible refine Bl.alloc ?_ _ | with_reducible refine Bl.trans ?_ (by assumption))); done))) _ rfl ?_; intro g cap9 w9 hown9 hg9 _ _; have g9 : Bl W0 w9 := Bl.grew (by ((repeat (first | with_reducible exact Bl.refl _ | with_reducible assumption | with_reducible refine Bl.drew ?_ | with_reducible refine Bl.alloc ?_ _ | with_reducible refine Bl.trans ?_ (by assumption))); done)) hg9; have HN := Lib.hid (ptsN_own hown9 rfl); have z0' := g9.cell z0; have z1' := g9.cell z1; have f0' := g9.unfrozen (p := ⟨w.heap.size + 1, 0, none⟩) (by rw [hs0]; exact Nat.lt_succ_self _) f0; have f1' := g9.unfrozen (p := ⟨w.heap.size + 1, 1, none⟩) (by rw [hs0]; exact Nat.lt_succ_self _) f1; clear hown9 hg9))
  go_wp2_with fail
  refine bodyPost_ret (v := .agg #[.int .i64 k, .slice (some ⟨g, 0, none⟩) (0 + l.length) cap9]) (by simp [results, Tryd.results19, go_sem, z0', z1']) rfl ?_
  refine ⟨_, rfl, ?_, HB1.out.trans (Bl.setCell (Bl.setCell (by ((repeat (first | with_reducible exact Bl.refl _ | with_reducible assumption | with_reducible refine Bl.drew ?_ | with_reducible refine Bl.alloc ?_ _ | with_reducible refine Bl.trans ?_ (by assumption))); done)) hs1' _) hs1' _)⟩
  refine (PtsN.set (PtsN.set HN.out ?_ _) ?_ _).mono ?_ <;> omega
set_option maxHeartbeats 1600000 in
theorem copied_nil (k : Int) (o : Option Addr) (cap : Nat) (w : World) :
    Calls Tryd.prog 19 #[.agg #[.int .i64 k, .slice o 0 cap]] w fun e w' => ∃ sv', e = .returned (.agg #[.int .i64 k, sv']) ∧ PtsN w.heap.size w' sv' [] ∧ Bl w w' := by
  obtain ⟨i0, hi, hz0, hz1, hz2⟩ := info_parts infoPt
  have hrun := fun ty w' => app_empty (P := Tryd.prog) 22 ty 73 i0 Tryd.underlying22 hi none o cap w'
  go_enter Tryd.func19, Tryd.ntmps19
  go_wp2_with fail
  obtain ⟨W1, hW1⟩ : ∃ W1, W1 = w.alloc (.cells #[.int .i64 k, .slice o 0 cap] 24) := ⟨_, rfl⟩
  rw [← hW1]
  obtain ⟨⟨k0, k1⟩, _, _⟩ := own2n (W := w) (W' := W1) rfl (by rw [hW1]; exact Bl.refl _)
  have hb1 : Bl w W1 := by rw [hW1]; exact (Bl.refl w).alloc _
  have hs1 : W1.heap.size = w.heap.size + 1 := by rw [hW1]; simp
  obtain ⟨W0, hW0⟩ : ∃ W0, W0 = W1.alloc (.cells #[.int .i64 0, .slice none 0 0] 24) := ⟨_, rfl⟩
  rw [← hW0]
  obtain ⟨⟨z0, z1⟩, f0, f1⟩ := own2n (W := W1) (W' := W0) (n := w.heap.size + 1) hs1.symm (by rw [hW0]; exact Bl.refl _)
  have hb10 : Bl W1 W0 := by rw [hW0]; exact (Bl.refl _).alloc _
  have hs1' : W1.heap.size ≤ w.heap.size + 1 := by omega
  have HB1 := Lib.hid hb1
  clear hW0 hW1 hb1
  go_region_held3 (fun w' => w'.cell? ⟨w.heap.size, 0, none⟩ = some (.int .i64 k) ∧ w'.cell? ⟨w.heap.size, 1, none⟩ = some (.slice o 0 cap))
    (refine ⟨Bl.cell (w := W1) ?_ k0, Bl.cell (w := W1) ?_ k1⟩ <;> ((repeat (first | with_reducible exact Bl.refl _ | with_reducible assumption | with_reducible refine Bl.drew ?_ | with_reducible refine Bl.setCell ?_ hs1' _ | with_reducible refine Bl.trans ?_ (by assumption))); done))
    ((refine step_app_empty _ (by rfl) _ _ _ (by rfl) _ i0 Tryd.underlying22 hi none o cap (by rfl) (by rfl) ?_))
  all_goals (go_wp2_with fail; refine bodyPost_ret (v := .agg #[.int .i64 k, .slice none 0 0]) (by simp [results, Tryd.results19, go_sem, z0, z1]) rfl ?_; exact ⟨_, rfl, Or.inl ⟨_, _, rfl, rfl⟩, HB1.out.trans (by ((repeat (first | with_reducible exact Bl.refl _ | with_reducible assumption | with_reducible refine Bl.drew ?_ | with_reducible refine Bl.setCell ?_ hs1' _ | with_reducible refine Bl.trans ?_ (by assumption))); done))⟩)
theorem copied_any (k : Int) (sv : Value) (l : List (Int × Int)) (w : World) (h : PtsAny w sv l) (hl : l.length ≤ 20) :
    Calls Tryd.prog 19 #[.agg #[.int .i64 k, sv]] w fun e w' => ∃ sv', e = .returned (.agg #[.int .i64 k, sv']) ∧ PtsN w.heap.size w' sv' l ∧ Bl w w' := by
  rcases h with ⟨o, cap, rfl, rfl⟩ | ⟨b, off, cap, rfl, h2, h3⟩
  · exact copied_nil k o cap w
  · rcases Nat.eq_zero_or_pos l.length with h0 | h0
    · obtain rfl : l = [] := List.eq_nil_of_length_eq_zero h0
      exact copied_nil k _ cap w
    · exact copied_pts k b off cap l w h2 hl h0

end Go.Proofs.YtbmficaefnkepaaDoor
