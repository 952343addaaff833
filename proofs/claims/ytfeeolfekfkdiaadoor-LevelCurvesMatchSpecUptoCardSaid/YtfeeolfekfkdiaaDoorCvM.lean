/- LevelCurvesMatchSpec is proved where what it reads is of bulk at most the bound: CheckCurve, CurveText, ReadCurve and Inverse answer as the reference's do; the listed variables are tied to the program's text by the card. -/
import Derived.Test.YtfeeolfekfkdiaaDoorCardKit
import Derived.Test.YtfeeolfekfkdiaaDoorRfR
import Derived.Test.YtfeeolfekfkdiaaDoorSame
import Derived.Test.YtfeeolfekfkdiaaDoorOpen
import Derived.SizedLaws
import Derived.ChangeMaps5
import Derived.Deep.DeepHandedRow
namespace Go.Proofs.YtfeeolfekfkdiaaDoor.curvsame
open Go.RowKit Go.ChangeShapes Go.WideShapes Go.ChangeAt Go.Lib

/-- A witness that meets a row with a condition and listed variables, from a world of the row's own. -/
theorem witness_tied {H : Type} {enc : TypeId × Value → H} {C : Checked} {os : Os} {f : FuncId} {fn : Func} {s : OpenSpec} {conds : List PathCond} {apart : Bool} {laid : List (String × DataW Unit)} (modest : Bool) (w0 : World) (args : Array Value) (hos : w0.os = os)
    (hsh : (w0.forCall (fun _ _ => 0) ⟨#[], args, []⟩).Shaped C.prog)
    (hok : Input.okWideB C.prog (w0.forCall (fun _ _ => 0) ⟨#[], args, []⟩) f ⟨#[], args, []⟩ = true)
    (hrow : s.preRow enc C.prog fn conds apart laid (w0.forCall (fun _ _ => 0) ⟨#[], args, []⟩).memory args) :
    ∃ (w : World) (tape : Tape) (i : Input), w.os = os ∧ (w.forCall tape i).Shaped C.prog ∧ i.vars = [] ∧ Input.okWide C.prog (w.forCall tape i) .any w.heap.size f i ∧
      s.preRow enc C.prog fn conds apart laid (w.forCall tape i).memory i.args ∧ ({ modest := modest } : Assume).holds C.prog (lone (Frame.enter C.prog f i.args .normal) [] (w.forCall tape i)) :=
  ⟨w0, fun _ _ => 0, ⟨#[], args, []⟩, hos, hsh, (Input.okWide_of_okWideB (base := 0) hok).1, (Input.okWide_of_okWideB hok).2, hrow, by
    simp only [Assume.holds]
    exact ⟨by simp, by simp, fun _ => Modest.zero, by simp, by simp⟩⟩

theorem heap_set_other {w : World} {x y j : Nat} (u : Value) (h : x ≠ y) : (w.setCell ⟨x, j, none⟩ u).heap[y]? = w.heap[y]? := by
  show (w.heap.modify x _)[y]? = _
  rw [Array.getElem?_modify, if_neg h]
/-- Points lie in no box whose second cell is no number: storing into the box leaves them. -/
theorem pts_apart {w : World} {v : Value} {l : List (Int × Int)} {x : Nat} {a : Value} {o : Option Addr} {n c : Nat} {t : TypeId} (h : PtsAny w v l) (hb : w.heap[x]? = some (.cells #[a, .slice o n c] t (0, 0))) (y z : Value) :
    PtsAny ((w.setCell ⟨x, 0, none⟩ y).setCell ⟨x, 1, none⟩ z) v l := by
  rcases h with h | ⟨b, off, cap, h1, hP, hm⟩
  · exact Or.inl h
  · refine Or.inr ⟨b, off, cap, h1, fun i hi => ?_, hm⟩
    have hne : b ≠ x := by
      intro e
      subst e
      obtain ⟨c0, c1⟩ := hP 0 (by omega)
      simp only [Nat.zero_mul, Nat.add_zero] at c0 c1
      have hoff : off = 0 ∨ off = 1 ∨ 2 ≤ off := by omega
      rcases hoff with rfl | rfl | h2
      · simp [World.cell?, hb] at c1
      · simp [World.cell?, hb] at c0
      · have : (#[a, Value.slice o n c] : Array Value)[off]? = none := Array.getElem?_eq_none (by simpa using h2)
        simp [World.cell?, hb, this] at c0
    obtain ⟨c0, c1⟩ := hP i hi
    have step : ∀ (p : Nat) (u : Value), w.cell? ⟨b, p, none⟩ = some u → ((w.setCell ⟨x, 0, none⟩ y).setCell ⟨x, 1, none⟩ z).cell? ⟨b, p, none⟩ = some u := fun p u hu =>
      (World.cell?_setCell_other _ ⟨x, 1, none⟩ ⟨b, p, none⟩ _ (by intro e; injection e with e1; exact hne (by first | exact e1 | exact e1.symm))).trans ((World.cell?_setCell_other _ ⟨x, 0, none⟩ ⟨b, p, none⟩ _ (by intro e; injection e with e1; exact hne (by first | exact e1 | exact e1.symm))).trans hu)
    exact ⟨step _ _ c0, step _ _ c1⟩

set_option maxRecDepth 100000 in
set_option maxHeartbeats 1600000 in
theorem walk (k : Int) (sv : Value) (l : List (Int × Int)) (s : ByteArray) (m : Int) (w : World) (h : PtsAny w sv l) (hs : s.size ≤ 100000000) (ht : TabIs Tryd.prog w "internal/strconv.uint64pow10" .u64 pow10Tab) (hm : w.cell? ⟨0, 0, none⟩ = some (.int .i64 m)) :
    Calls Tryd.prog 8 #[.agg #[.int .i64 k, sv], .string s] w fun e w' => e = .returned (.bool true) ∧ Bl w w' := by
  obtain ⟨o, n, cap, rfl⟩ := h.form
  have H1 := Lib.hid (fun w' (g : Bl w w') => (curveText_any k _ l w' (h.bl g) (tab_bl ht g)).mono fun e w'' ⟨h1, h2⟩ => (⟨h1, h2.bl⟩ : e = ctR k l ∧ Bl w' w''))
  have H2 := Lib.hid (fun w' (g : Bl w w') => curveTextR k _ l w' (h.bl g) (tab_bl ht g))
  unfold ctR at H1 H2
  have H3 := Lib.hid (fun w' (g : Bl w w') => (checkCurve_any k _ l w' (h.bl g)).mono fun e w'' ⟨h1, h2⟩ => (⟨h1, h2.bl⟩ : _ ∧ Bl w' w''))
  have H4 := Lib.hid (fun w' (g : Bl w w') => checkCurve_ref k _ l w' (h.bl g))
  unfold PCk at H4
  have H5 := Lib.hid (fun w' (g : Bl w w') => readCurve_any s m w' hs (g.cell hm))
  have H6 := Lib.hid (fun w' (g : Bl w w') => readCurveR s m w' hs (g.cell hm))
  unfold RcPost at H5 H6
  have H7 := Lib.hid (fun w' (g : Bl w w') => inverse_any k _ l w' (h.bl g))
  have H8 := Lib.hid (fun w' (g : Bl w w') => inverseR k _ l w' (h.bl g))
  unfold IvPost at H7 H8
  clear h ht hm
  generalize (if ckCurve k l = 0 then cvText k l else []) = tx at *
  generalize bs tx = t at *
  generalize ckCurve k l = cc at *
  generalize rcK s.data.toList = k3 at *
  generalize rcX s.data.toList = x3 at *
  generalize rcL s.data.toList = l3 at *
  generalize ivK k l = k4 at *
  generalize ivX k l = x4 at *
  generalize ivL k l = l4 at *
  go_enter Tryd.func8, Tryd.ntmps8
  go_wp2_with fail
  have b0 : Bl w (w.alloc (.cells #[.int .i64 k, .slice o n cap] 24)) := (Bl.refl w).alloc _
  refine (H1.out _ b0).mono ?_
  rintro e w1 ⟨rfl, g1⟩
  obtain ⟨p0, p1⟩ := box2 rfl g1
  have hs : w.heap.size < w1.heap.size := by have := g1.size; simp at this; omega
  have b1 : Bl w w1 := b0.trans g1
  go_wp2_with fail
  refine (H2.out _ b1).mono ?_
  rintro e w2 ⟨rfl, g2⟩
  clear p0 p1
  obtain ⟨p0, p1⟩ := box2 rfl (g1.trans g2)
  have B2 := Lib.hid (b1.trans g2)
  have hs2 : w.heap.size < w2.heap.size := by have := g2.size; omega
  have HG := Lib.hid (g1.trans g2)
  clear b0 b1 g1 g2 hs
  go_wp2_with fail
  go_region_held3 (fun w' => w'.cell? ⟨w.heap.size, 0, none⟩ = some (.int .i64 k) ∧ w'.cell? ⟨w.heap.size, 1, none⟩ = some (.slice o n cap))
    ((refine ⟨Bl.cell (w := w2) ?_ p0, Bl.cell (w := w2) ?_ p1⟩ <;> ((repeat (first | with_reducible exact Bl.refl _ | with_reducible assumption | with_reducible refine Bl.drew ?_ | with_reducible refine Bl.alloc ?_ _ | with_reducible refine Bl.trans ?_ (by assumption))); done)))
    ((first | (go_at_call 25; refine (H3.out _ (Bl.trans B2.out (by ((repeat (first | with_reducible exact Bl.refl _ | with_reducible assumption | with_reducible refine Bl.drew ?_ | with_reducible refine Bl.alloc ?_ _ | with_reducible refine Bl.trans ?_ (by assumption))); done)))).mono ?_; rintro e w3 ⟨rfl, g3⟩) | (go_at_call 26; refine (H4.out _ (Bl.trans B2.out (by ((repeat (first | with_reducible exact Bl.refl _ | with_reducible assumption | with_reducible refine Bl.drew ?_ | with_reducible refine Bl.alloc ?_ _ | with_reducible refine Bl.trans ?_ (by assumption))); done)))).mono ?_; rintro e w4 ⟨rfl, g4⟩; have g24 : Bl w2 w4 := (by ((repeat (first | with_reducible exact Bl.refl _ | with_reducible assumption | with_reducible refine Bl.drew ?_ | with_reducible refine Bl.alloc ?_ _ | with_reducible refine Bl.trans ?_ (by assumption))); done)); have q0 := g24.cell p0; have q1 := g24.cell p1)))
  all_goals
    have B4 := Lib.hid (Bl.trans B2.out g24)
    have hs4 : w.heap.size < w4.heap.size := by have := g24.size; omega
    clear p0 p1 g24 hs2
    go_wp2_with fail
    refine (H5.out _ B4.out).mono ?_
    rintro e w5 ⟨v5, rfl, hv5, g5⟩
    obtain ⟨o5, n5, c5, rfl⟩ := hv5.form
    have B5 := Lib.hid (B4.out.trans g5)
    replace q0 := g5.cell q0
    replace q1 := g5.cell q1
    have hs5 : w.heap.size < w5.heap.size := by have := g5.size; omega
    have HV5 := Lib.hid hv5
    clear g5 hs4 hv5
    go_wp2_with fail
    refine (H6.out _ (B5.out.alloc _)).mono ?_
    rintro e w6 ⟨v6, rfl, hv6, g6⟩
    obtain ⟨o6, n6, c6, rfl⟩ := hv6.form
    have g56 : Bl w5 w6 := ((Bl.refl w5).alloc _).trans g6
    have B6 := Lib.hid (B5.out.trans g56)
    replace q0 := g56.cell q0
    replace q1 := g56.cell q1
    obtain ⟨x0, x1⟩ := box2 rfl g6
    have hs6 : w5.heap.size < w6.heap.size := by have := g6.size; simp at this; omega
    have HV5 := Lib.hid (HV5.out.bl g56)
    have HV6 := Lib.hid hv6
    have hs06 : w.heap.size < w6.heap.size := by omega
    have fx0 : w6.frozen? ⟨w5.heap.size, 0, none⟩ = false := by rw [g6.frozen (by simp)]; simp
    have fx1 : w6.frozen? ⟨w5.heap.size, 1, none⟩ = false := by rw [g6.frozen (by simp)]; simp
    have hX : w6.heap[w5.heap.size]? = some (.cells #[.int .i64 k3, .slice o5 n5 c5] 24 (0, 0)) := (g6.block _ (by simp)).trans (World.alloc_heap_new w5 _)
    clear g6 g56 hv6
    go_wp2_with fail
    have ga6 : Bl w6 (w6.alloc (.cells #[.int .i64 k3, .slice o6 n6 c6] 24)) := (Bl.refl w6).alloc _
    refine (sameCurve_ok k3 o5 n5 c5 o6 n6 c6 l3 _ (HV5.out.bl ga6) (HV6.out.bl ga6)).mono ?_
    rintro e w7 ⟨rfl, g7⟩
    have g67 : Bl w6 w7 := ga6.trans g7
    have B7 := Lib.hid (B6.out.trans g67)
    replace q0 := g67.cell q0
    replace q1 := g67.cell q1
    replace x0 := g67.cell x0
    replace x1 := g67.cell x1
    replace fx0 : w7.frozen? ⟨w5.heap.size, 0, none⟩ = false := by rw [g67.frozen hs6]; exact fx0
    replace fx1 : w7.frozen? ⟨w5.heap.size, 1, none⟩ = false := by rw [g67.frozen hs6]; exact fx1
    obtain ⟨y0, y1⟩ := box2 rfl g7
    have fy0 : w7.frozen? ⟨w6.heap.size, 0, none⟩ = false := by rw [g7.frozen (by simp)]; simp
    have fy1 : w7.frozen? ⟨w6.heap.size, 1, none⟩ = false := by rw [g7.frozen (by simp)]; simp
    have hY : w7.heap[w6.heap.size]? = some (.cells #[.int .i64 k3, .slice o6 n6 c6] 24 (0, 0)) := (g7.block _ (by simp)).trans (World.alloc_heap_new w6 _)
    replace hX := (g67.block _ hs6).trans hX
    have hs7 : w6.heap.size < w7.heap.size := by have := g7.size; simp at this; omega
    clear g7 ga6 g67 HV5 HV6
    go_wp2_with fail
    refine (H7.out _ B7.out).mono ?_
    rintro e w8 ⟨v8, rfl, hv8, g8⟩
    obtain ⟨o8, n8, c8, rfl⟩ := hv8.form
    replace q0 := g8.cell q0
    replace q1 := g8.cell q1
    replace x0 := g8.cell x0
    replace x1 := g8.cell x1
    replace y0 := g8.cell y0
    replace y1 := g8.cell y1
    replace fx0 : w8.frozen? ⟨w5.heap.size, 0, none⟩ = false := by rw [g8.frozen (Nat.lt_trans hs6 hs7)]; exact fx0
    replace fx1 : w8.frozen? ⟨w5.heap.size, 1, none⟩ = false := by rw [g8.frozen (Nat.lt_trans hs6 hs7)]; exact fx1
    replace fy0 : w8.frozen? ⟨w6.heap.size, 0, none⟩ = false := by rw [g8.frozen hs7]; exact fy0
    replace fy1 : w8.frozen? ⟨w6.heap.size, 1, none⟩ = false := by rw [g8.frozen hs7]; exact fy1
    replace hX := (g8.block _ (Nat.lt_trans hs6 hs7)).trans hX
    replace hY := (g8.block _ hs7).trans hY
    have B8 := Lib.hid (B7.out.trans g8)
    have hs8 : w6.heap.size < w8.heap.size := by have := g8.size; omega
    have HV8 := Lib.hid (pts_apart hv8 hX (.int .i64 k4) (.slice o8 n8 c8))
    have HY8 := Lib.hid ((heap_set_other (j := 1) (.slice o8 n8 c8) (Nat.ne_of_lt hs6)).trans ((heap_set_other (j := 0) (.int .i64 k4) (Nat.ne_of_lt hs6)).trans hY))
    clear g8 hv8 hX hY hs7
    go_wp2_with fail
    have BB : Bl w ((w8.setCell ⟨w5.heap.size, 0, none⟩ (.int .i64 k4)).setCell ⟨w5.heap.size, 1, none⟩ (.slice o8 n8 c8)) := (B8.out.setCell (p := ⟨w5.heap.size, 0, none⟩) (Nat.le_of_lt hs5) _).setCell (p := ⟨w5.heap.size, 1, none⟩) (Nat.le_of_lt hs5) _
    refine (H8.out _ BB).mono ?_
    rintro e w9 ⟨v9, rfl, hv9, g9⟩
    obtain ⟨o9, n9, c9, rfl⟩ := hv9.form
    obtain ⟨z0, z1⟩ := st2 (.int .i64 k4) (.slice o8 n8 c8) x0 x1
    have z0 := g9.cell z0
    have z1 := g9.cell z1
    have t0 := g9.cell ((World.cell?_setCell_other _ ⟨w5.heap.size, 1, none⟩ ⟨w6.heap.size, 0, none⟩ (.slice o8 n8 c8) (by intro e; injection e with e1; omega)).trans ((World.cell?_setCell_other _ ⟨w5.heap.size, 0, none⟩ ⟨w6.heap.size, 0, none⟩ (.int .i64 k4) (by intro e; injection e with e1; omega)).trans y0))
    have t1 := g9.cell ((World.cell?_setCell_other _ ⟨w5.heap.size, 1, none⟩ ⟨w6.heap.size, 1, none⟩ (.slice o8 n8 c8) (by intro e; injection e with e1; omega)).trans ((World.cell?_setCell_other _ ⟨w5.heap.size, 0, none⟩ ⟨w6.heap.size, 1, none⟩ (.int .i64 k4) (by intro e; injection e with e1; omega)).trans y1))
    have hs9 : w6.heap.size < ((w8.setCell ⟨w5.heap.size, 0, none⟩ (.int .i64 k4)).setCell ⟨w5.heap.size, 1, none⟩ (.slice o8 n8 c8)).heap.size := by simpa using hs8
    have hY9 := (g9.block _ hs9).trans HY8.out
    have f0 : w9.frozen? ⟨w6.heap.size, 0, none⟩ = false := by rw [g9.frozen hs9]; simpa using fy0
    have f1 : w9.frozen? ⟨w6.heap.size, 1, none⟩ = false := by rw [g9.frozen hs9]; simpa using fy1
    have HV9 := Lib.hid (pts_apart hv9 hY9 (.int .i64 k4) (.slice o9 n9 c9))
    have HVA := Lib.hid (pts_apart (HV8.out.bl g9) hY9 (.int .i64 k4) (.slice o9 n9 c9))
    have B9 := Lib.hid (BB.trans g9)
    clear g9 hv9 hY9 BB q0 q1 x0 x1 y0 y1 fx0 fx1 fy0 fy1
    go_wp2_with fail
    have BC : Bl w ((w9.setCell ⟨w6.heap.size, 0, none⟩ (.int .i64 k4)).setCell ⟨w6.heap.size, 1, none⟩ (.slice o9 n9 c9)) := (B9.out.setCell (p := ⟨w6.heap.size, 0, none⟩) (Nat.le_of_lt hs06) _).setCell (p := ⟨w6.heap.size, 1, none⟩) (Nat.le_of_lt hs06) _
    refine (sameCurve_ok k4 o8 n8 c8 o9 n9 c9 l4 _ HVA.out HV9.out).mono ?_
    rintro e w10 ⟨rfl, g10⟩
    have BD := BC.trans g10
    clear BC g10
    go_wp2_with fail
    go_returns
    exact ⟨by first | rfl | exact (by simp), BD⟩

theorem own : ownKnob Tryd.prog.godebug = none := by kernel_rfl
theorem laid : laidOutB Tryd.prog = true := by kernel_rfl
/-- What the bound gives: the text's length. -/
theorem short {H : Type} {d : DataW H} {s : ByteArray} (hk : Rows.uptoSmall H ([d, .lit (.string s.data.toList)] ++ []) = true) : s.size ≤ 100000000 := by
  have h : Rows.uptoBulkAll ([d, DataW.lit (H := H) (.string s.data.toList)] ++ []) ≤ 1048576 := of_decide_eq_true hk
  simp only [List.cons_append, List.nil_append, Rows.uptoBulkAll, Rows.uptoBulk] at h
  rw [← lst_len]
  omega

set_option maxRecDepth 100000 in
theorem lifted (os : Os) (started : os.Started) (H : Type) (enc : TypeId × Value → H) (F : Stop.Interp) :
    ReturnsInHanded {} Tryd.checked os 8 .any ((Rows.OpenSpec.upto Rows.levelCurvesMatchSpecSpec).preRow enc Tryd.prog Tryd.f8 Rows.levelCurvesMatchSpecUptoRow.domain false Rows.levelCurvesMatchSpecUptoRow.laid) (((Rows.OpenSpec.upto Rows.levelCurvesMatchSpecSpec).at F).post enc Tryd.prog Tryd.f8 false true false false) := by
  obtain ⟨places, hx⟩ : ∃ places, DataW.whole enc Tryd.prog ((World.laidAll Tryd.prog os Rows.levelCurvesMatchSpecUptoRow.laid).forCall (fun _ _ => 0) ⟨#[], #[.agg #[.int .i64 0, .slice none 0 0], .string ⟨#[]⟩], []⟩).memory Tryd.f8.params.toList Rows.levelCurvesMatchSpecSpec.vars false #[Value.agg #[.int .i64 0, .slice none 0 0], .string ⟨#[]⟩].toList 8 = some ([.agg [.lit (.int .i64 0), .nil], .lit (.string [])], [], places) := ⟨[], by kernel_rfl⟩
  refine returnsInHanded_of_row (C := Tryd.checked) (s := Rows.OpenSpec.upto Rows.levelCurvesMatchSpecSpec) own started (by kernel_rfl) Tryd.func8
    (witness_tied (C := Tryd.checked) false (World.laidAll Tryd.prog os Rows.levelCurvesMatchSpecUptoRow.laid) #[.agg #[.int .i64 0, .slice none 0 0], .string ⟨#[]⟩] (World.laidAll_os _ _ _)
      (World.shaped_of_ZipB (by kernel_rfl) (by kernel_rfl)) (by kernel_rfl)
      (OpenSpec.preRow_of_cond 8 hx (by kernel_rfl) (fun k hk => by cases hk; kernel_rfl) (by kernel_rfl)
        (by rw [MakeChecks.laidMetH_plain _ _ _ (by kernel_rfl)]; exact laidMet_laidAll _ (by kernel_rfl) (by kernel_rfl)))) ?_
  intro W base args ds gs before hval0 hW _ hcond _ hL0 hsh _
  obtain ⟨mx, hmx⟩ := maxLen_cell hsh
  have hL : laidMetH Tryd.prog Rows.levelCurvesMatchSpecUptoRow.laid W := hL0
  rw [MakeChecks.laidMetH_plain _ _ _ (by kernel_rfl)] at hL
  have htab := pow_tab hL.tail.tail
  have hbd := hcond _ rfl
  have hval : ∀ (j : Nat) t v, Tryd.f8.params[j]? = some t → args[j]? = some v → Value.okWide Tryd.prog W .any base t v := hval0
  have hW' := hW
  obtain ⟨p, q, hA0, hV, rfl, hfz, hnd⟩ := hW
  have hA : DataW.TrodAll enc Tryd.prog W 0 (fun _ => true) true Tryd.f8.params.toList args.toList ds p := hA0
  rw [Tryd.params8] at hA hval
  obtain ⟨v0, vs0, d0, ds0, p0, q0, hargs, rfl, rfl, h0, r0⟩ := trodAll_cons hA
  obtain ⟨v1, vs1, d1, ds1, p1, q1, rfl, rfl, rfl, h1, r1⟩ := trodAll_cons r0
  obtain ⟨rfl, rfl, rfl⟩ := trodAll_nil r1
  obtain rfl : args = #[v0, v1] := by cases args; simp_all
  obtain ⟨rfl, rfl⟩ := trodVars_none hV
  obtain ⟨k0, sv0, l0, rfl, wk0, hp0, wp0⟩ := open_curve (hval 0 24 v0 rfl rfl) h0
  obtain ⟨s1, rfl, rfl, rfl, w1⟩ := Go.ChangeMaps.open_string Tryd.underlying9 (hval 1 9 v1 rfl rfl) h1
  clear hA0 hval0
  refine (walk k0 sv0 l0 s1 mx W hp0 (short hbd) htab hmx).mono fun e W' ⟨he, hg⟩ => ?_
  subst he
  exact ⟨_, rfl, law_old hW' rfl rfl (by kernel_rfl) Tryd.underlying4 laid (by kernel_rfl) hg⟩

theorem over : Rows.LevelCurvesMatchSpecUptoSaid :=
  OpenClaim.holds_of_cond 8 Tryd.f8 rfl rfl rfl rfl rfl rfl rfl ⟨rfl, rfl, rfl, rfl, rfl⟩ rfl rfl rfl rfl rfl (by kernel_rfl) Tryd.func8 (by kernel_rfl)
    (of_decide_eq_true (by kernel_rfl)) (by unfold Func.isWrapper; first | (rw [if_pos (by decide +kernel)]; kernel_rfl) | (rw [if_neg (by decide +kernel)]; exact ⟨rfl, rfl⟩))
    (fun os started H enc _ F => by rw [OpenClaim.pre_eq_preRow]; exact lifted os started H enc F)

/-- The card: the statement. -/
theorem proved : Rows.LevelCurvesMatchSpecUptoCardSaid :=
  Claim7.holds_tied_plain_at .later [] _ _ _ _ over (fun _ h => by cases h) (by kernel_rfl) (fun _ h => by cases h) levelCurvesMatchSpecUpto_row_tie rfl ⟨rfl, rfl⟩ (by kernel_rfl) rfl
    (fun f fn hf hfn => by
      obtain rfl : f = 8 := Option.some.inj ((show Tryd.prog.funcNamed "cyclorama/cycloramalaw1.LevelCurvesMatchSpec" = some 8 by kernel_rfl).symm.trans hf) |>.symm
      obtain rfl : fn = Tryd.f8 := (Option.some.inj (Tryd.func8.symm.trans hfn)).symm
      exact ⟨by kernel_rfl, fun j t ht => by
        rw [Tryd.params8] at ht
        have hm := Array.mem_of_getElem? ht
        have hall : ((#[24, 9] : Array TypeId).toList.all fun u => !Tryd.prog.wantsStandIn u) = true := by kernel_rfl
        exact (show Tryd.prog.wantsStandIn t = false by simpa using List.all_eq_true.1 hall t (by simpa using hm))⟩)
    (by kernel_rfl)
end Go.Proofs.YtfeeolfekfkdiaaDoor.curvsame
