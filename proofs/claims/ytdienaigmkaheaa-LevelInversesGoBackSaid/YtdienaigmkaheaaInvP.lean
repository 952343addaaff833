/- The program's Inverse. -/
import Derived.Test.YtdienaigmkaheaaBack
namespace Go.Proofs.Ytdienaigmkaheaa
open Go.RowKit Go.Shelf Go.Sort

attribute [local go_sem] Oper.semAt_some

theorem infoPt : (Try.prog.info? 63).map (fun i => (i.zero, i.size, i.bytes)) = some (some (.agg #[.int .i64 0, .int .i64 0]), 2, 16) := by kernel_rfl
theorem lift_pts {l : List (Int × Int)} (hT : OkTab l) : ∃ L : List PtR, L.map Subtype.val = l := by
  have : ∀ x ∈ l, (0 ≤ x.1 ∧ x.1 ≤ 1000) ∧ (0 ≤ x.2 ∧ x.2 ≤ 1000) := by
    intro x hx
    obtain ⟨i, hi, rfl⟩ := List.mem_iff_getElem.1 hx
    have := hT.range i hi
    rw [List.getElem?_eq_getElem hi] at this
    exact ⟨⟨this.1, this.2.1⟩, this.2.2⟩
  exact ⟨l.attach.map fun x => ⟨x.1, this x.1 x.2⟩, by rw [List.map_map]; exact List.attach_map_subtype_val l⟩
theorem two_of {W : World} {B : Nat} {u v : Value} {t : TypeId} (h : W.heap[B]? = some (.cells #[u, v] t (0, 0))) : W.cell? ⟨B, 0, none⟩ = some u ∧ W.cell? ⟨B, 1, none⟩ = some v ∧ W.frozen? ⟨B, 0, none⟩ = false ∧ W.frozen? ⟨B, 1, none⟩ = false := by
  refine ⟨?_, ?_, ?_, ?_⟩ <;> simp [World.cell?, World.frozen?, h]
theorem two_set {W : World} {B : Nat} {u v : Value} {t : TypeId} (v' : Value) (h : W.heap[B]? = some (.cells #[u, v] t (0, 0))) : (W.setCell ⟨B, 1, none⟩ v').heap[B]? = some (.cells #[u, v'] t (0, 0)) := by
  obtain ⟨hlt, hk⟩ := Array.getElem?_eq_some_iff.1 h
  show (W.heap.modify B _)[B]? = _
  rw [Array.getElem?_eq_getElem (by rw [Array.size_modify]; exact hlt), Array.getElem_modify_self, hk]
  rfl
/-- 'append' of one pair to a row of the call's own, in a round. -/
theorem app_pairIn {F : Fence} {nF : Nat} {P : Program} {t e : TypeId} (ht : P.underlying t = some (.slice e)) (info : (P.info? e).map (fun i => (i.zero, i.size, i.bytes)) = some (some (.agg #[.int .i64 0, .int .i64 0]), 2, 16))
    {ops : Array Oper} {rest : List Oper} {o : Oper} {a : Act} {Q : Exit → Act → World → Prop} (hgd : o.guard = none) (s x : Operand)
    (ho : o.op = .call { callee := .builtin .append, args := #[s, x], argTypes := #[t, t] }) (base : Nat) (w : World) (v : Value) (l : List (Int × Int)) (c d : Int)
    (hown : Row base e w v l) (hs : a.eval s = v) (hx : a.eval x = .slice (some ⟨w.heap.size, 0, none⟩) 1 1) (hn : l.length ≤ 1000000000) (hbl : base ≤ w.heap.size)
    (h : ∀ v' w', Row base e w' v' (l ++ [(c, d)]) → (∀ w0, Bl w0 w → w0.heap.size ≤ base → Bl w0 w') → w.grownBy w' v.ownBlock → (w.alloc (.cells #[.int .i64 c, .int .i64 d] e)).grownBy w' v.ownBlock → wpListIn F nF P ops Q rest (a.put o.dst v') w') :
    wpListIn F nF P ops Q (o :: rest) a (w.alloc (.cells #[.int .i64 c, .int .i64 d] e)) := by
  obtain ⟨i0, hi, hz0, hz1, hz2⟩ := info_parts info
  refine Go.wpListIn_append_own_at _ hgd s x t ho base e i0 (.agg #[.int .i64 0, .int .i64 0]) 2 16 ht hi hz0 hz1 hz2 rfl (by omega) v l.length _ hs (World.ownsRow.alloc hown _) ⟨w.heap.size, 0, none⟩ 1 1 [.int .i64 c, .int .i64 d] hx rfl (cell_two_new w _ _ e) (fun u hu => by simp at hu; rcases hu with rfl | rfl <;> rfl) (by unfold maxLen; omega) (by omega) (by simp; omega) ?_
  intro v' w' h2 h3 _ h5
  refine h v' w' ?_ (fun w0 g0 hb => ?_) ?_ h3
  · have e1 : flat (l ++ [(c, d)]) = flat l ++ [.int .i64 c, .int .i64 d] := by rw [flat_app]; rfl
    unfold Row
    rw [e1]
    simpa using h2
  · exact (g0.alloc _).grown h3 fun k hk => by have := (World.ownsRow.lt hown k hk).1; omega
  · exact ⟨h3.os, h3.tape, h3.output, Nat.le_trans (by simp) h3.size, fun k hk hne => (h3.block k (by simp; omega) hne).trans (Below.heap_alloc _ _ _ hk)⟩
theorem row_cells {base : Nat} {e : TypeId} {w : World} {v : Value} {l : List (Int × Int)} (h : Row base e w v l) : ∀ (j : Nat) (o : Obj), v.ownBlock = some j → w.heap[j]? = some o → o.isCells = true := by
  intro j o hj ho
  rcases h.2 with ⟨rfl, _⟩ | ⟨g, cap, cur, rfl, _, hgb, _⟩
  · simp [Value.ownBlock] at hj
  · have : g = j := by simpa [Value.ownBlock] using hj
    subst this; rw [hgb] at ho; cases ho; rfl
theorem row_succ {base : Nat} {e : TypeId} {w : World} {v : Value} {l : List (Int × Int)} {x : Int × Int} (h : Row base e w v (l ++ [x])) : ∃ g cap, v = .slice (some ⟨g, 0, none⟩) (l ++ [x]).length cap := by
  rcases h.2 with ⟨_, h0⟩ | ⟨g, cap, cur, rfl, _⟩
  · simp at h0
  · exact ⟨g, cap, rfl⟩
/-- Between two rounds: the block of the curve that goes back holds the points that have come. -/
structure InvI (W0 : World) (Bb : Nat) (pre : List (Nat × PtR)) (W : World) : Prop where
  box : ∃ v, W.heap[Bb]? = some (.cells #[.int .i64 6, v] 32 (0, 0)) ∧ Row (Bb + 2) 63 W v (pre.map fun x => opp x.2.1)
  bl : Below Bb W0 W
  size : Bb + 2 ≤ W.heap.size
theorem invI_own (W0 : World) (Bb : Nat) : OwnFrom (Bb + 2) (InvI W0 Bb) := fun s W W' row h hg hr => by
  obtain ⟨v, hv, hrow⟩ := h.box
  refine ⟨⟨v, ?_, ?_⟩, Below.grown h.bl hg (by have := h.size; omega) (fun k hk => by have := (hr k hk).1; omega), Nat.le_trans h.size hg.size⟩
  · rw [hg.block Bb (box_lt hv) (fun e => by have := (hr Bb e.symm).1; omega)]; exact hv
  · refine World.ownsRow.kept hrow hg ?_
    cases hb : v.ownBlock with
    | none => exact Or.inl rfl
    | some g =>
      refine Or.inr fun e => ?_
      obtain ⟨_, o, ho, hc⟩ := hr g e.symm
      rw [row_cells hrow g o hb ho] at hc; cases hc
/-- The temporaries behind the assignment of a round. -/
def InvAx (B0 : Nat) (T : Value → Value → Value → Act) (x : Nat × PtR) (a' : Act) (W : World) : Prop :=
  ∃ Bx, B0 ≤ Bx ∧ W.heap[Bx]? = some (.cells #[.int .i64 x.2.1.1, .int .i64 x.2.1.2] 63 (0, 0)) ∧ a' = T (.pointer (some ⟨Bx, 0, none⟩)) (.int .i64 (x.1 : Int)) (.agg #[.int .i64 x.2.1.1, .int .i64 x.2.1.2])
theorem invAx_own (B B0 : Nat) (T : Value → Value → Value → Act) (x : Nat × PtR) (a' : Act) : OwnFrom B (fun (_ : Unit) W => InvAx B0 T x a' W) := fun _ W W' row h hg hr => by
  obtain ⟨Bx, h1, h2, h3⟩ := h
  refine ⟨Bx, h1, ?_, h3⟩
  rw [hg.block Bx (box_lt h2) (fun e => by
    obtain ⟨_, o, ho, hc⟩ := hr Bx e.symm
    rw [h2] at ho; cases ho; cases hc)]
  exact h2
set_option maxRecDepth 100000 in
set_option maxHeartbeats 3200000 in
theorem inverse_tab (F : Fence) (hF : F = Fence.wide) (n : Nat) (hn : 5 ≤ n) (b off cap : Nat) (l : List (Int × Int)) (w : World) (hT : OkTab l) (hP : Pts w b off l) (hck : ckCurve 6 l = 0) :
    CallsIn F n Try.prog 16 #[.agg #[.int .i64 6, .slice (some ⟨b, off, none⟩) l.length cap]] w fun e w' => ∃ v, e = .returned (.tuple #[.agg #[.int .i64 6, v], .int .i64 0]) ∧ PtsAny w' v (invL l) ∧ Bl w w' := by
  have h2 := hT.two
  have h20 := hT.most
  have hb : b < w.heap.size := World.block_lt_of_cell? _ _ (hP 0 (by omega)).1
  have HC := Lib.hid (fun w' (g : Bl w w') => show CallsIn F (n - 1) Try.prog 28 #[.agg #[.int .i64 6, .slice (some ⟨b, off, none⟩) l.length cap]] w' fun e w'' => e = .returned (.int .i64 0) ∧ Bl w' w'' from
    hF ▸ callsIn_wide.2 ((checkCurve_any 6 (.slice (some ⟨b, off, none⟩) l.length cap) l w' (Or.inr ⟨b, off, cap, rfl, hP.bl g, by omega⟩)).mono fun e w'' ⟨h1, h2⟩ => ⟨by rw [h1, hck], h2.bl⟩))
  have HP := Lib.hid hP
  have HT := Lib.hid hT
  have hro : F.round = none := by rw [hF]; rfl
  have f25 : F.fn 28 := by rw [hF]; trivial
  have f63 : F.fn 32 := by rw [hF]; trivial
  have f89 : F.fn 55 := by rw [hF]; trivial
  have f30 : F.fn 16 := by rw [hF]; trivial
  have hn1 : 1 ≤ n := by omega
  clear hck hP hT hF
  refine callsIn_of_wp_marks Try.func16 rfl f30 ?_ hro
  simp only [Try.ntmps16, List.size_toArray, List.length_cons, List.length_nil, Nat.reduceAdd, Nat.reduceSub, Array.replicate_succ, Array.replicate_zero, List.push_toArray, List.append_toArray, List.nil_append, List.cons_append]
  gi_wp2_with (first | (gi_at_call 28; refine (HC.out _ (((Bl.refl w).alloc _).alloc _)).mono ?_; rintro e w1 ⟨rfl, g1⟩; have hbl1 : Bl w w1 := (((Bl.refl w).alloc _).alloc _).trans g1; have hs1 : w.heap.size + 1 < w1.heap.size := (by have := g1.size; simp at this; omega); have hs0 : w.heap.size < w1.heap.size := (by omega); have k0 := g1.cell (p := ⟨w.heap.size, 0, none⟩) (v := .int .i64 6) (by simp); have k1 := g1.cell (p := ⟨w.heap.size, 1, none⟩) (v := .slice (some ⟨b, off, none⟩) l.length cap) (by simp)) | (gi_at_call 32; refine (backward_in F _ f63 hro _ _ _ _).mono ?_; rintro e w2 ⟨rfl, rfl⟩))
  obtain ⟨L, hL⟩ := lift_pts HT.out
  have hLl : L.length = l.length := by rw [← hL, List.length_map]
  obtain ⟨W0, hW0⟩ : ∃ W0, (w1.alloc (Obj.cells #[Value.int IntKind.i64 6, Value.slice none 0 0] 32)).alloc (Obj.cells #[Value.slice (some ⟨b, off, none⟩) l.length cap] 30) = W0 := ⟨_, rfl⟩
  have hs2 : W0.heap.size = w1.heap.size + 2 := by rw [← hW0]; simp
  have hbl0 : Bl w W0 := by rw [← hW0]; exact (hbl1.alloc _).alloc _
  have hBb : W0.heap[w1.heap.size]? = some (.cells #[.int .i64 6, .slice none 0 0] 32 (0, 0)) := by
    rw [← hW0]; exact (Below.heap_alloc _ _ _ (by simp)).trans (World.alloc_heap_new w1 _)
  have hBs : W0.cell? ⟨w1.heap.size + 1, 0, none⟩ = some (.slice (some ⟨b, off, none⟩) L.length cap) := by rw [← hW0, hLl]; simp
  have hP0 : Pts W0 b off (L.map Subtype.val) := by rw [hL]; exact HP.out.bl hbl0
  rw [hW0]
  have hI0 : InvI W0 w1.heap.size [] W0 := ⟨⟨_, hBb, World.ownsRow_nil _ _ _ _⟩, Below.refl _ _, by omega⟩
  have hres : W0.heap[w.heap.size + 1]? = some (.cells #[.int .i64 0, .slice none 0 0] 32 (0, 0)) := by
    rw [← hW0]
    refine (Below.heap_alloc _ _ _ (by simp; omega)).trans ((Below.heap_alloc _ _ _ hs1).trans ((g1.block _ (by simp)).trans ?_))
    have := World.alloc_heap_new (w.alloc (Obj.cells #[Value.int IntKind.i64 6, Value.slice (some ⟨b, off, none⟩) l.length cap] 32)) (Obj.cells #[Value.int IntKind.i64 0, Value.slice none 0 0] 32)
    rwa [World.size_alloc] at this
  have hw1 := hbl1.size
  clear hW0 g1 k0 k1
  refine wpIn_rangeFunc_ownH hro hn1 (gf := 55) (lb := #[.pointer (some ⟨w1.heap.size + 1, 0, none⟩)]) rfl f89 (enters_of Try.func55 (by kernel_rfl) rfl)
    (back_stops F (n - 1) f89 hro (by omega) (w1.heap.size + 1) b off cap L (by omega) W0 (by omega) (by omega) hBs hP0) Kp2.trans (fun W l o o' hl _ _ _ => ⟨World.putObj_heap_other (by omega), World.putObj_heap_other (by omega)⟩) (Below.refl _ _) (fun _ => rfl)
    (InvI W0 w1.heap.size) (fun _ _ _ => False) (hs2 ▸ invI_own W0 w1.heap.size) (fun _ _ _ _ _ hs _ _ => hs) hI0
    (InvAx W0.heap.size (fun p i v => { tmps := #[.agg #[.int .i64 6, .slice (some ⟨b, off, none⟩) l.length cap], .pointer (some ⟨w.heap.size, 0, none⟩), .pointer (some ⟨w.heap.size + 1, 0, none⟩), .int .i64 0, .int .i64 0, .pointer (some ⟨w1.heap.size, 0, none⟩), undef, p, .agg #[.int .i64 6, .slice (some ⟨b, off, none⟩) l.length cap], .int .i64 0, .int .i64 0, .bool false, undef, undef, .pointer (some ⟨w.heap.size, 0, none⟩), .int .i64 6, .agg #[.int .i64 6, .slice none 0 0], .pointer (some ⟨w.heap.size, 0, none⟩), .int .i64 6, .bool false, .bool false, undef, .bool false, .bool false, undef, .bool false, .bool false, undef, .bool true, .bool true, .pointer (some ⟨w.heap.size, 1, none⟩), .slice (some ⟨b, off, none⟩) l.length cap, .func (.func 55) #[] #[.pointer (some ⟨w1.heap.size + 1, 0, none⟩)], i, v, undef, undef, undef, undef, undef, undef, undef, undef, undef, undef, undef, undef, undef], defers := [] }))
    (fun x a' => invAx_own _ _ _ x a') ?assign ?body ?done ?stop
  case assign =>
    intro l2 pre x W K hI hK
    have hsz := hI.size
    have hsz0 : W0.heap.size ≤ W.heap.size := by omega
    unfold encB
    gi_wp2
    refine hK _ _ ((KeepsOthers.alloc _ _).from _) ⟨Below.heap_alloc _ _ _ (by omega), Below.heap_alloc _ _ _ (by omega)⟩ ?_ ⟨W.heap.size, hsz0, World.alloc_heap_new W _, rfl⟩
    obtain ⟨v, hv, hr⟩ := hI.box
    exact ⟨⟨v, (Below.heap_alloc _ _ _ (box_lt hv)).trans hv, World.ownsRow.alloc hr _⟩, Below.alloc hI.bl (by omega) _, by simp; omega⟩
  case body =>
    rintro l2 pre x a' W hl2 ⟨r, hr⟩ hI ⟨Bx, hBx, bX, rfl⟩ hlt
    obtain ⟨v, hv, hrow⟩ := hI.box
    obtain ⟨q0, q1, q2, q3⟩ := two_of hv
    obtain ⟨y0, y1, y2, y3⟩ := two_of bX
    obtain ⟨ix, ⟨⟨c, d⟩, ⟨c0, c1⟩, d0, d1⟩⟩ := x
    have hsz := hI.size
    have hlen : (pre.map fun x => opp x.2.1).length ≤ 1000000000 := by rw [List.length_map]; omega
    have hnx : ∀ w3 : World, W.grownBy w3 v.ownBlock → w3.heap[w1.heap.size]? = some (.cells #[.int .i64 6, v] 32 (0, 0)) := fun w3 hg => Row.far hrow hg (by omega) hv
    have HV := Lib.hid hv
    have HR := Lib.hid hrow
    have HX := Lib.hid hnx
    have HI := Lib.hid hI
    clear hv hrow hnx bX hr
    have c0 : 0 ≤ c := c0
    have c1 : c ≤ 1000 := c1
    have d0 : 0 ≤ d := d0
    have d1 : d ≤ 1000 := d1
    gi_wp2_with (first | (gi_at_builtin; refine app_pairIn Try.underlying30 infoPt rfl _ _ rfl (w1.heap.size + 2) W v _ (1000 - c) (1000 - d) HR.out rfl rfl hlen hsz ?_; intro v' w3 hrow3 hbl3 hg3 hg4; obtain ⟨g', cap', rfl⟩ := row_succ hrow3; have HV3 := Lib.hid (HX.out w3 hg3); obtain ⟨p0, p1, p2, p3⟩ := two_of HV3.out; have HR3 := Lib.hid hrow3; have HB3 := Lib.hid hbl3; have HG3 := Lib.hid hg3; have HG4 := Lib.hid hg4; clear hrow3 hbl3 hg3 hg4; go_frame) | gi_in)
    have hrlt : ∀ k, v.ownBlock = some k → w1.heap.size + 2 ≤ k := fun k hk => (World.ownsRow.lt HR.out k hk).1
    have hblk : ∀ k, k < w1.heap.size + 2 → k ≠ w1.heap.size → (w3.setCell ⟨w1.heap.size, 1, none⟩ (.slice (some ⟨g', 0, none⟩) (pre.length + 1) cap')).heap[k]? = W.heap[k]? := fun k hk hne =>
      (Below.heap_setCell _ _ _ k hne).trans (HG3.out.block k (by omega) (fun e => by have := hrlt k e.symm; omega))
    have e1 : (pre.map (fun x : Nat × PtR => opp x.2.1) ++ [(1000 - c, 1000 - d)]).length = pre.length + 1 := by simp
    have hr4 := row_set (j := 1) HR3.out (b := w1.heap.size) (by omega) (.slice (some ⟨g', 0, none⟩) (pre.length + 1) cap')
    rw [e1] at hr4
    refine ⟨((KeepsOthers.of_grownBy HG3.out (row_cells HR.out)).trans (KeepsOthers.setCell _ _ _)).from _, ⟨hblk _ (by omega) (by omega), hblk _ (by omega) (by omega)⟩, ⟨⟨_, two_set _ HV3.out, ?_⟩, Below.setCell (Below.grown HI.out.bl HG3.out (by omega) (fun k hk => by have := hrlt k hk; omega)) (p := ⟨w1.heap.size, 1, none⟩) (Nat.le_refl _) _, ?_⟩⟩
    · rw [List.map_append]; exact hr4
    · have := HG3.out.size
      simp only [World.size_setCell]
      omega
  case done =>
    rintro D ys W hD rfl hI hK
    obtain ⟨v, hv, hrow⟩ := hI.box
    obtain ⟨q0, q1, q2, q3⟩ := two_of hv
    have e : (downTo L L.length).map (fun x : Nat × PtR => opp x.2.1) = invL l := by
      have h := congrArg (List.map (fun y : PtR => opp y.1)) (downTo_all L)
      rw [List.map_map] at h
      unfold invL
      rw [← hL, ← List.map_reverse, List.map_map]
      exact h
    rw [e] at hrow
    have HROW := Lib.hid hrow
    have HI := Lib.hid hI
    have HV := Lib.hid hv
    have HK := Lib.hid hK
    obtain ⟨r0, r1, r2, r3⟩ := two_of ((HI.out.bl.block _ (by omega)).trans hres)
    have hwW := HI.out.size
    obtain ⟨o, ln, cp, rfl⟩ : ∃ o ln cp, v = .slice o ln cp := by
      rcases Row.pts hrow with ⟨o, cp, rfl, _⟩ | ⟨bb, of, cp, rfl, _⟩
      · exact ⟨_, _, _, rfl⟩
      · exact ⟨_, _, _, rfl⟩
    clear hv hrow hI hK e
    gi_wp2
    obtain ⟨W5, hW5⟩ : ∃ W5, (W.setCell ⟨w.heap.size + 1, 0, none⟩ (.int .i64 6)).setCell ⟨w.heap.size + 1, 1, none⟩ (.slice o ln cp) = W5 := ⟨_, rfl⟩
    have hK5 : W5.heap[D]? = some (.deferred (some [])) := by
      rw [← hW5]; exact (KeepsOthers.setCell _ _ _).same D _ ((KeepsOthers.setCell _ _ _).same D _ HK.out rfl) rfl
    have d0 : W5.cell? ⟨w.heap.size + 1, 0, none⟩ = some (.int .i64 6) := by rw [← hW5]; exact (World.cell?_setCell_other _ ⟨w.heap.size + 1, 1, none⟩ ⟨w.heap.size + 1, 0, none⟩ _ (by intro e; cases e)).trans (World.cell?_setCell_same _ _ _ r0)
    have d1 : W5.cell? ⟨w.heap.size + 1, 1, none⟩ = some (.slice o ln cp) := by rw [← hW5]; exact World.cell?_setCell_same _ _ _ ((World.cell?_setCell_other _ ⟨w.heap.size + 1, 0, none⟩ ⟨w.heap.size + 1, 1, none⟩ _ (by intro e; cases e)).trans r1)
    have hrow5 : Row (w1.heap.size + 2) 63 W5 (.slice o ln cp) (invL l) := by
      rw [← hW5]; exact row_set (row_set HROW.out (by omega) _) (by omega) _
    have hb5 : Below w.heap.size w W5 := by
      rw [← hW5]
      exact Below.setCell (Below.setCell (Below.trans hbl0 (Below.mono HI.out.bl hw1)) (p := ⟨w.heap.size + 1, 0, none⟩) (Nat.le_succ _) _) (p := ⟨w.heap.size + 1, 1, none⟩) (Nat.le_succ _) _
    rw [hW5]
    clear hW5
    refine ⟨by simp, .inl ⟨_, _, rfl, run_takeDeferred hK5, ?_⟩⟩
    have hg := grownBy_putObj' W5 D (.deferred none)
    have hrD : ∀ r, some D = some r → ∃ o : Obj, W5.heap[r]? = some o ∧ o.isCells = false := fun r e => by cases e; exact ⟨_, hK5, rfl⟩
    have c0 := cell_kept d0 hg hrD
    have c1 := cell_kept d1 hg hrD
    refine ⟨.tuple #[.agg #[.int .i64 6, .slice o ln cp], .int .i64 0], ?_, ⟨_, rfl, ?_, ?_⟩⟩
    · simp [results, Try.f16, go_sem, c0, c1]
    · refine Row.pts (base := w1.heap.size + 2) (e := 63) (World.ownsRow.kept hrow5 hg ?_)
      cases hb : (Value.slice o ln cp).ownBlock with
      | none => exact Or.inl rfl
      | some g =>
        refine Or.inr fun e => ?_
        obtain ⟨o2, h3, h4⟩ := hrD g e.symm
        rw [row_cells hrow5 g o2 hb h3] at h4; cases h4
    · exact Below.grown hb5 hg hb5.size (fun k e => by cases e; omega)
  case stop =>
    rintro D c pre W _ _ h _
    exact h.elim
end Go.Proofs.Ytdienaigmkaheaa
