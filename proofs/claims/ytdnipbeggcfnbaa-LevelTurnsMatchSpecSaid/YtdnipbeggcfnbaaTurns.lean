/- LevelTurnsMatchSpec is proved: Turn answers as the reference does, for all fades, times, levels and curves, with no condition. -/
import Derived.Test.YtdnipbeggcfnbaaTurnR
import Derived.Test.YtdnipbeggcfnbaaEqP
import Derived.Test.YtdnipbeggcfnbaaLawKit
import Derived.Test.YtdnipbeggcfnbaaOpen
import Derived.SizedLaws
namespace Go.Proofs.Ytdnipbeggcfnbaa.turns
open Go.ChangeShapes Go.WideShapes Go.ChangeAt Go.RowKit Go.Deep

theorem _root_.Go.Proofs.Ytdnipbeggcfnbaa.PtsAny.form {w : World} {sv : Value} {l : List (Int × Int)} (h : PtsAny w sv l) : ∃ o n c, sv = .slice o n c := by
  rcases h with ⟨o, cap, h, _⟩ | ⟨b, off, cap, h, _, _⟩
  · exact ⟨_, _, _, h⟩
  · exact ⟨_, _, _, h⟩
theorem bytesPt : Try.prog.bytesOf 89 = 16 := by kernel_rfl
set_option maxRecDepth 100000 in
/-- How long the points of a curve that comes in may be. -/
theorem curve_len {H : Type} {enc : TypeId × Value → H} {w : World} {base : Nat} {spare : Nat → Bool} {held : Bool} {k : Int} {sv : Value} {l : List (Int × Int)} {d : DataW H} {p : List MemPlace}
    (h : DataW.Trod enc Try.prog w base spare held 40 (.agg #[.int .i64 k, sv]) d p) (hp : PtsAny w sv l) (hs : ∀ x ∈ d.weights Try.prog 40, x ≤ reachBytes) : l.length * 16 ≤ 140737488355328 := by
  obtain ⟨fuel, hn⟩ := h
  obtain ⟨y0, y1, n2, hx, _, _, h1⟩ := trod_struct2 Try.underlying40 hn
  have hd : d = .agg [y0.1, y1.1] := (Prod.mk.inj hx).1
  subst hd
  have h1' : DataW.trod enc Try.prog w base spare held n2 38 [sv] = some y1 := h1
  rcases open_slice Try.underlying38 h1' with ⟨hv, _⟩ | ⟨a, len, cap, m, n', D, Pl, hcs, _, hl, hm, hmm, hxx, _⟩
  · have e : sv = .slice none 0 0 := by simpa using hv
    rcases hp with ⟨o, cap, _, rfl⟩ | ⟨b, off, cap, h2, _, _⟩
    · simp
    · rw [e] at h2
      injection h2 with h3
      cases h3
  · have e : sv = .slice (some a) len cap := by simpa using hcs
    have hlen : l.length = len := by
      rcases hp with ⟨o, cap', h2, rfl⟩ | ⟨b, off, cap', h2, _, _⟩
      · rw [e] at h2
        injection h2 with _ h3 _
        simp [h3]
      · rw [e] at h2
        injection h2 with _ h3 _
        exact h3.symm
    have hy : y1.1 = .slice ((List.range len).map D) ((List.range (m - len)).map fun j => D (len + j)) := by rw [hxx]
    have e1 : DataW.weights Try.prog 40 (.agg [y0.1, y1.1]) = DataW.weightsEach Try.prog [3, 38] [y0.1, y1.1] := by
      rw [DataW.weights, Try.underlying40]; rfl
    rw [e1] at hs
    have e2 := hs ((((List.range len).map D).length + ((List.range (m - len)).map fun j => D (len + j)).length) * Try.prog.bytesOf 89) (DataW.weights_mem_each (j := 1) (t := 38) (d := y1.1) rfl rfl _ (by
      rw [hy, DataW.weights, Try.underlying38]
      exact List.mem_cons_self))
    rw [bytesPt] at e2
    simp only [List.length_map, List.length_range, reachBytes] at e2
    omega

set_option maxHeartbeats 800000 in
theorem sameCurve_ok (k : Int) (o1 : Option Addr) (n1 c1 : Nat) (o2 : Option Addr) (n2 c2 : Nat) (l : List (Int × Int)) (w : World) (h1 : PtsAny w (.slice o1 n1 c1) l) (h2 : PtsAny w (.slice o2 n2 c2) l) :
    Calls Try.prog 72 #[.agg #[.int .i64 k, .slice o1 n1 c1], .agg #[.int .i64 k, .slice o2 n2 c2]] w fun e w' => e = .returned (.bool true) ∧ Bl w w' := by
  have HE := Lib.hid (fun w' (g : Bl w w') => eqPt (.slice o1 n1 c1) (.slice o2 n2 c2) l w' (h1.bl g) (h2.bl g))
  clear h1 h2
  go_enter Try.func72, Try.ntmps72
  go_wp2_with fail
  refine (HE.out _ (((Bl.refl w).alloc _).alloc _)).mono ?_
  rintro e w1 ⟨rfl, g1⟩
  go_wp2_with fail
  go_returns
  exact ⟨rfl, (((Bl.refl w).alloc _).alloc _).trans g1⟩
set_option maxHeartbeats 1600000 in
theorem sameFade_ok (a b c d e k : Int) (o1 : Option Addr) (n1 c1 : Nat) (o2 : Option Addr) (n2 c2 : Nat) (l : List (Int × Int)) (w : World) (h1 : PtsAny w (.slice o1 n1 c1) l) (h2 : PtsAny w (.slice o2 n2 c2) l) :
    Calls Try.prog 43 #[.agg #[.int .i64 a, .int .i64 b, .int .i64 c, .int .i64 d, .int .i64 e, .int .i64 k, .slice o1 n1 c1], .agg #[.int .i64 a, .int .i64 b, .int .i64 c, .int .i64 d, .int .i64 e, .int .i64 k, .slice o2 n2 c2]] w fun e w' => e = .returned (.bool true) ∧ Bl w w' := by
  have HE := Lib.hid (fun w' (g : Bl w w') => sameCurve_ok k o1 n1 c1 o2 n2 c2 l w' (h1.bl g) (h2.bl g))
  clear h1 h2
  go_enter Try.func43, Try.ntmps43
  go_wp2_with fail
  refine (HE.out _ (((Bl.refl w).alloc _).alloc _)).mono ?_
  rintro e w1 ⟨rfl, g1⟩
  go_wp2_with fail
  go_returns
  exact ⟨rfl, (((Bl.refl w).alloc _).alloc _).trans g1⟩

set_option maxRecDepth 100000 in
set_option maxHeartbeats 3200000 in
theorem walk0 (F T S Dl Tm k : Int) (o : Option Addr) (ln cap : Nat) (t uu dl tm k2 : Int) (o2 : Option Addr) (ln2 cap2 : Nat) (w : World) (x a b c d e k3 : Int) (l3 : List (Int × Int))
    (A1 : ∀ w', Bl w w' → Calls Try.prog 41 #[.agg #[.int .i64 F, .int .i64 T, .int .i64 S, .int .i64 Dl, .int .i64 Tm, .int .i64 k, .slice o ln cap], .int .i64 t, .int .i64 uu, .int .i64 dl, .int .i64 tm, .agg #[.int .i64 k2, .slice o2 ln2 cap2]] w' (PTu x a b c d e k3 l3 w'))
    (A2 : ∀ w', Bl w w' → Calls Try.prog 42 #[.agg #[.int .i64 F, .int .i64 T, .int .i64 S, .int .i64 Dl, .int .i64 Tm, .int .i64 k, .slice o ln cap], .int .i64 t, .int .i64 uu, .int .i64 dl, .int .i64 tm, .agg #[.int .i64 k2, .slice o2 ln2 cap2]] w' (PTu x a b c d e k3 l3 w')) :
    Calls Try.prog 13 #[.agg #[.int .i64 F, .int .i64 T, .int .i64 S, .int .i64 Dl, .int .i64 Tm, .int .i64 k, .slice o ln cap], .int .i64 t, .int .i64 uu, .int .i64 dl, .int .i64 tm, .agg #[.int .i64 k2, .slice o2 ln2 cap2]] w fun e w' => e = .returned (.bool true) ∧ Bl w w' := by
  unfold PTu at A1 A2
  have A1 := Lib.hid A1
  have A2 := Lib.hid A2
  go_enter Try.func13, Try.ntmps13
  go_wp2_with fail
  obtain ⟨WA, hWA⟩ : ∃ WA, WA = w.alloc (.cells #[.int .i64 F, .int .i64 T, .int .i64 S, .int .i64 Dl, .int .i64 Tm, .int .i64 k, .slice o ln cap] 46) := ⟨_, rfl⟩
  rw [← hWA]
  have hbA : Bl w WA := by rw [hWA]; exact (Bl.refl w).alloc _
  have hsA : WA.heap.size = w.heap.size + 1 := by rw [hWA, World.size_alloc]
  obtain ⟨k0, k1, k2', k3', k4, k5, k6⟩ := own7b (W := w) (W' := WA) rfl (by rw [hWA]; exact Bl.refl _)
  obtain ⟨W1, hW1⟩ : ∃ W1, W1 = WA.alloc (.cells #[.int .i64 k2, .slice o2 ln2 cap2] 40) := ⟨_, rfl⟩
  rw [← hW1]
  have hb1 : Bl w W1 := by rw [hW1]; exact hbA.alloc _
  have hAB : Bl WA W1 := by rw [hW1]; exact (Bl.refl _).alloc _
  obtain ⟨c0, c1⟩ := box2 (W := WA) (W' := W1) (n := w.heap.size + 1) hsA.symm (by rw [hW1]; exact Bl.refl _)
  replace k0 := hAB.cell k0
  replace k1 := hAB.cell k1
  replace k2' := hAB.cell k2'
  replace k3' := hAB.cell k3'
  replace k4 := hAB.cell k4
  replace k5 := hAB.cell k5
  replace k6 := hAB.cell k6
  have hs1 : W1.heap.size = w.heap.size + 2 := by rw [hW1, World.size_alloc, hsA]
  clear hW1 hWA hbA hAB hsA
  refine (A1.out _ hb1).mono ?_
  rintro e' w2 ⟨v1, rfl, hp1, g2⟩
  obtain ⟨o3, n3, c3, rfl⟩ := hp1.form
  have HP1 := Lib.hid hp1
  clear hp1
  replace k0 := g2.cell k0
  replace k1 := g2.cell k1
  replace k2' := g2.cell k2'
  replace k3' := g2.cell k3'
  replace k4 := g2.cell k4
  replace k5 := g2.cell k5
  replace k6 := g2.cell k6
  replace c0 := g2.cell c0
  replace c1 := g2.cell c1
  have hb2 : Bl w w2 := hb1.trans g2
  have hz0 : w.heap.size < w2.heap.size := by have := g2.size; omega
  have hz1 : w.heap.size + 1 < w2.heap.size := by have := g2.size; omega
  clear g2 hb1 hs1
  go_wp2_with fail
  refine (A2.out _ (hb2.alloc _)).mono ?_
  rintro e' w3 ⟨v2, rfl, hp2, g3⟩
  obtain ⟨o4, n4, c4, rfl⟩ := hp2.form
  obtain ⟨q0, q1, q2, q3, q4, q5, q6⟩ := own7b rfl g3
  have HP13 := Lib.hid (HP1.out.bl (((Bl.refl w2).alloc _).trans g3))
  have HP2 := Lib.hid hp2
  have hb3 : Bl w w3 := (hb2.alloc _).trans g3
  have hs3 : w2.heap.size < w3.heap.size := by have := g3.size; simp at this; omega
  clear hp2 g3 k0 k1 k2' k3' k4 k5 k6 c0 c1 hb2
  go_wp2_with fail
  refine (sameFade_ok a b c d e k3 o3 n3 c3 o4 n4 c4 l3 _ (HP13.out.bl ((Bl.refl _).alloc _)) (HP2.out.bl ((Bl.refl _).alloc _))).mono ?_
  rintro e' w4 ⟨rfl, g4⟩
  go_wp2_with fail
  go_returns
  exact ⟨rfl, (hb3.alloc _).trans g4⟩
theorem walk (F T S Dl Tm k : Int) (sv : Value) (l : List (Int × Int)) (t uu dl tm k2 : Int) (sv2 : Value) (l2 : List (Int × Int)) (w : World) (h : PtsAny w sv l) (h2 : PtsAny w sv2 l2) (hsz2 : l2.length * 16 ≤ 140737488355328) :
    Calls Try.prog 13 #[.agg #[.int .i64 F, .int .i64 T, .int .i64 S, .int .i64 Dl, .int .i64 Tm, .int .i64 k, sv], .int .i64 t, .int .i64 uu, .int .i64 dl, .int .i64 tm, .agg #[.int .i64 k2, sv2]] w fun e w' => e = .returned (.bool true) ∧ Bl w w' := by
  obtain ⟨o, ln, cap, rfl⟩ := h.form
  obtain ⟨o2, ln2, cap2, rfl⟩ := h2.form
  by_cases hx : tuX F T S Dl Tm k l t uu dl tm k2 l2 = 0
  · exact walk0 F T S Dl Tm k o ln cap t uu dl tm k2 o2 ln2 cap2 w 0 (atA F T S Dl Tm k l t) uu t dl tm k2 l2
      (fun w' g => (turn_prog F T S Dl Tm k _ l t uu dl tm k2 _ l2 w' (h.bl g) (h2.bl g)).mono fun _ _ hp => hp.1 hx)
      (fun w' g => (turn_ref F T S Dl Tm k _ l t uu dl tm k2 _ l2 w' (h.bl g) (h2.bl g) hsz2).mono fun _ _ hp => hp.1 hx)
  · exact walk0 F T S Dl Tm k o ln cap t uu dl tm k2 o2 ln2 cap2 w (tuX F T S Dl Tm k l t uu dl tm k2 l2) 0 0 0 0 0 0 []
      (fun w' g => (turn_prog F T S Dl Tm k _ l t uu dl tm k2 _ l2 w' (h.bl g) (h2.bl g)).mono fun _ _ hp => hp.2 hx)
      (fun w' g => (turn_ref F T S Dl Tm k _ l t uu dl tm k2 _ l2 w' (h.bl g) (h2.bl g) hsz2).mono fun _ _ hp => hp.2 hx)

theorem own : ownKnob Try.prog.godebug = none := by kernel_rfl
theorem laid : laidOutB Try.prog = true := by kernel_rfl

set_option maxRecDepth 100000 in
theorem lifted (os : Os) (started : os.Started) (H : Type) (enc : TypeId × Value → H) :
    ReturnsInHanded {} Try.checked os 13 .any (Rows.levelTurnsMatchSpecSpec.pre6 enc Try.prog Try.f13 Rows.levelTurnsMatchSpecRow.domain false) (Rows.levelTurnsMatchSpecSpec.post enc Try.prog Try.f13 false true false false) := by
  refine returnsInHanded_of_change_sized (C := Try.checked) own started (by kernel_rfl) Try.func13
    (ChangeSpec.witness6 (enc := enc) (C := Try.checked) false ⟨#[], #[.agg #[.int .i64 0, .int .i64 0, .int .i64 0, .int .i64 0, .int .i64 0, .int .i64 0, .slice none 0 0], .int .i64 0, .int .i64 0, .int .i64 0, .int .i64 0, .agg #[.int .i64 0, .slice none 0 0]], []⟩ 8 (by kernel_rfl) (by kernel_rfl) (by kernel_rfl) (by kernel_rfl)) ?_
  intro W base args ds gs before hval0 hW hcnd hsz0 _
  have hval : ∀ (j : Nat) t v, Try.f13.params[j]? = some t → args[j]? = some v → Value.okWide Try.prog W .any base t v := hval0
  have hW' := hW
  obtain ⟨p, q, hA0, hV, rfl, hfz, hnd⟩ := hW
  have hA : DataW.TrodAll enc Try.prog W 0 (fun _ => true) true Try.f13.params.toList args.toList ds p := hA0
  rw [Try.params13] at hA hval
  obtain ⟨v0, vs0, d0, ds0, p0, q0, hargs, rfl, rfl, h0, r0⟩ := trodAll_cons hA
  obtain ⟨v1, vs1, d1, ds1, p1, q1, rfl, rfl, rfl, h1, r1⟩ := trodAll_cons r0
  obtain ⟨v2, vs2, d2, ds2, p2, q2, rfl, rfl, rfl, h2, r2⟩ := trodAll_cons r1
  obtain ⟨v3, vs3, d3, ds3, p3, q3, rfl, rfl, rfl, h3, r3⟩ := trodAll_cons r2
  obtain ⟨v4, vs4, d4, ds4, p4, q4, rfl, rfl, rfl, h4, r4⟩ := trodAll_cons r3
  obtain ⟨v5, vs5, d5, ds5, p5, q5, rfl, rfl, rfl, h5, r5⟩ := trodAll_cons r4
  obtain ⟨rfl, rfl, rfl⟩ := trodAll_nil r5
  obtain rfl : args = #[v0, v1, v2, v3, v4, v5] := by cases args; simp_all
  obtain ⟨rfl, rfl⟩ := trodVars_none hV
  have hsz : (DataW.weightsEach Try.prog (Try.f13.params.toList ++ Rows.levelTurnsMatchSpecSpec.plain.varTypes Try.prog) ([d0, d1, d2, d3, d4, d5] ++ [])).all (· ≤ reachBytes) = true := hsz0
  rw [Try.params13] at hsz
  obtain ⟨F0, T0, S0, Dl0, Tm0, k0, sv0, l0, rfl, wf0, hp0, wp0⟩ := open_fade (hval 0 46 v0 rfl rfl) h0
  obtain ⟨a1, rfl, rfl, rfl, w1⟩ := open_int Try.underlying3 (hval 1 3 v1 rfl rfl) h1
  obtain ⟨a2, rfl, rfl, rfl, w2⟩ := open_int Try.underlying3 (hval 2 3 v2 rfl rfl) h2
  obtain ⟨a3, rfl, rfl, rfl, w3⟩ := open_int Try.underlying3 (hval 3 3 v3 rfl rfl) h3
  obtain ⟨a4, rfl, rfl, rfl, w4⟩ := open_int Try.underlying3 (hval 4 3 v4 rfl rfl) h4
  obtain ⟨k5, sv5, l5, rfl, wk5, hp5, wp5⟩ := open_curve (hval 5 40 v5 rfl rfl) h5
  have hlen : l5.length * 16 ≤ 140737488355328 := curve_len h5 hp5 (fun x hx => by
    have := List.all_eq_true.1 hsz x (DataW.weights_mem_each (j := 5) rfl rfl x hx)
    simpa using this)
  clear hA0 hval0
  refine (walk F0 T0 S0 Dl0 Tm0 k0 sv0 l0 a1 a2 a3 a4 k5 sv5 l5 W hp0 hp5 hlen).mono fun e W' ⟨he, hg⟩ => ?_
  subst he
  exact ⟨_, rfl, law_old hW' rfl rfl (by kernel_rfl) Try.underlying4 laid (by kernel_rfl) hg⟩

theorem over : Rows.levelTurnsMatchSpecRow.holds Try.pinned (OpenSpec.ofChange Rows.levelTurnsMatchSpecSpec) :=
  OpenClaim.holds_of_wide 13 Try.f13 rfl rfl rfl rfl rfl rfl rfl ⟨rfl, rfl, rfl, rfl, rfl⟩ rfl rfl rfl rfl rfl (by kernel_rfl) Try.func13 (by kernel_rfl)
    (of_decide_eq_true (by kernel_rfl)) (by unfold Func.isWrapper; first | (rw [if_pos (by decide +kernel)]; kernel_rfl) | (rw [if_neg (by decide +kernel)]; exact ⟨rfl, rfl⟩))
    (fun os started H enc _ => lifted os started H enc)

/-- The statement. -/
theorem proved : Rows.LevelTurnsMatchSpecSaid :=
  over
end Go.Proofs.Ytdnipbeggcfnbaa.turns

