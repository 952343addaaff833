/- LevelCurvesComeBack is proved where what it reads is of bulk at most the bound: CurveText and ReadCurve are inverse, and so is Inverse with itself; the listed variables are tied to the program's text by the card. -/
import Derived.Test.YtfeeolfekfkdiaaDoorCardKit
import Derived.Test.YtfeeolfekfkdiaaDoorCvW
import Derived.Test.YtfeeolfekfkdiaaDoorOpen
import Derived.SizedLaws
import Derived.ChangeMaps5
import Derived.Deep.DeepHandedRow
namespace Go.Proofs.YtfeeolfekfkdiaaDoor.curvback
open Go.RowKit Go.ChangeShapes Go.WideShapes Go.ChangeAt Go.Lib

/-- A witness that meets a row with a condition and listed variables, from a world of the row's own. -/
theorem witness_tied {H : Type} {enc : TypeId × Value → H} {C : Checked} {os : Os} {f : FuncId} {fn : Func} {s : OpenSpec} {conds : List PathCond} {apart : Bool} {laid : List (String × DataW Unit)} (modest : Bool) (w0 : World) (args : Array Value) (hos : w0.os = os)
    (hsh : (w0.forCall (fun _ _ => 0) ⟨#[], args, []⟩).Shaped C.prog)
    (hok : Input.okWideB C.prog (w0.forCall (fun _ _ => 0) ⟨#[], args, []⟩) f ⟨#[], args, []⟩ = true)
    (hrow : s.preRow enc C.prog fn conds apart laid (w0.forCall (fun _ _ => 0) ⟨#[], args, []⟩).memory args) :
    ∃ (w : World) (tape : Tape) (i : Input), w.os = os ∧ (w.forCall tape i).Shaped C.prog ∧ i.vars = [] ∧ Input.okWide C.prog (w.forCall tape i) .any w.heap.size f i ∧
      s.preRow enc C.prog fn conds apart laid (w.forCall tape i).memory i.args ∧ ({ modest := modest } : Assume).holds C.prog (lone (Frame.enter C.prog f i.args .normal) [] (w.forCall tape i)) :=
  ⟨w0, fun _ _ => 0, ⟨#[], args, []⟩, hos, hsh, (Input.okWide_of_okWideB (base := 0) hok).1, (Input.okWide_of_okWideB hok).2, hrow, by
    simp only [Assume.holds]
    exact ⟨by simp, by simp, fun _ => Modest.zero, by simp, by simp⟩⟩

set_option maxRecDepth 100000 in
theorem walk (k : Int) (sv : Value) (l : List (Int × Int)) (s : ByteArray) (m : Int) (w : World) (h : PtsAny w sv l) (hs : s.size ≤ 100000000) (ht : TabIs Tryd.prog w "internal/strconv.uint64pow10" .u64 pow10Tab) (hm : w.cell? ⟨0, 0, none⟩ = some (.int .i64 m)) :
    Calls Tryd.prog 9 #[.agg #[.int .i64 k, sv], .string s] w fun e w' => e = .returned (.bool true) ∧ Bl w w' := by
  obtain ⟨o, n, cap, rfl⟩ := h.form
  have HA0 : ∀ w', Bl w w' → Calls Tryd.prog 23 #[.agg #[.int .i64 k, .slice o n cap]] w' (CtIs (bs (if ckCurve k l = 0 then cvText k l else [])) (ckCurve k l) w') := fun w' g =>
    (curveText_any k _ l w' (h.bl g) (tab_bl ht g)).mono fun e w'' ⟨h1, h2⟩ => ⟨h1, h2.bl⟩
  have HR0 : ∀ w', Bl w w' → Calls Tryd.prog 27 #[.string s] w' (RcPost s w') := fun w' g => readCurve_any s m w' hs (g.cell hm)
  have HT0 : ∀ v w', Bl w w' → PtsAny w' v (rcL s.data.toList) → Calls Tryd.prog 23 #[.agg #[.int .i64 (rcK s.data.toList), v]] w' fun e w'' => e = ctR (rcK s.data.toList) (rcL s.data.toList) ∧ Bl w' w'' := fun v w' g hv =>
    (curveText_any _ v _ w' hv (tab_bl ht g)).mono fun e w'' ⟨h1, h2⟩ => ⟨h1, h2.bl⟩
  have HI0 : ∀ w', Bl w w' → Calls Tryd.prog 30 #[.agg #[.int .i64 k, .slice o n cap]] w' (IvPost k l w') := fun w' g => inverse_any k _ l w' (h.bl g)
  by_cases hck : ckCurve k l = 0
  · obtain ⟨r1, r2, r3, r4⟩ := rc_text hck
    have HA : ∀ w', Bl w w' → Calls Tryd.prog 23 #[.agg #[.int .i64 k, .slice o n cap]] w' (CtIs (bs (cvText k l)) 0 w') := fun w' g => by
      have := HA0 w' g
      rwa [if_pos hck, hck] at this
    have HB : ∀ w', Bl w w' → Calls Tryd.prog 27 #[.string (bs (cvText k l))] w' (RcOk k l w') := fun w' g =>
      (readCurve_any (bs (cvText k l)) m w' (by rw [bs_size]; exact r4) (g.cell hm)).mono fun e w'' ⟨v, h1, h2, h3⟩ => ⟨v, by rw [h1, bs_list, r1, r2], by rw [bs_list, r3] at h2; exact h2, h3⟩
    by_cases h5 : k = 5
    · subst h5
      obtain ⟨e1, e2, e3⟩ := iv_five hck
      have HI : ∀ w', Bl w w' → Calls Tryd.prog 30 #[.agg #[.int .i64 5, .slice o n cap]] w' (RcNo 0 3 w') := fun w' g =>
        (HI0 w' g).mono fun e w'' ⟨v, h1, h2, h3⟩ => by
          rw [e3] at h2
          obtain ⟨o2, c2, rfl⟩ := no_pts h2
          exact ⟨o2, c2, by rw [h1, e1, e2], h3⟩
      by_cases hx : rcX s.data.toList = 0
      · exact walk101 5 o n cap l s w h _ 0 3 rfl _ _ HA HB HI
          (fun w' g => (HR0 w' g).mono fun e w'' ⟨v, h1, h2, h3⟩ => ⟨v, by rw [h1, hx], h2, h3⟩)
          (fun v w' g hv => (HT0 v w' g hv).mono fun e w'' ⟨h1, h2⟩ => ⟨by rw [h1, ct_read hx], h2⟩)
      · exact walk100 5 o n cap l s w h _ 0 3 rfl _ _ (by simpa using hx) HA HB HI
          (fun w' g => (HR0 w' g).mono fun e w'' ⟨v, h1, h2, h3⟩ => by
            rw [(rc_no hx).2] at h2
            obtain ⟨o2, c2, rfl⟩ := no_pts h2
            exact ⟨o2, c2, h1, h3⟩)
    · obtain ⟨e1, e2, e3⟩ := iv_ok hck h5
      obtain ⟨f1, f2, f3⟩ := iv_twice hck h5
      have HI : ∀ w', Bl w w' → Calls Tryd.prog 30 #[.agg #[.int .i64 k, .slice o n cap]] w' (RcOk (invK k) (if k = 6 then invL l else []) w') := fun w' g =>
        (HI0 w' g).mono fun e w'' ⟨v, h1, h2, h3⟩ => ⟨v, by rw [h1, e1, e2], by rw [e3] at h2; exact h2, h3⟩
      have HJ : ∀ v w', PtsAny w' v (if k = 6 then invL l else []) → Calls Tryd.prog 30 #[.agg #[.int .i64 (invK k), v]] w' (RcOk k l w') := fun v w' hv =>
        (inverse_any (invK k) v _ w' hv).mono fun e w'' ⟨v', h1, h2, h3⟩ => ⟨v', by rw [h1, f1, f2], by rw [f3] at h2; exact h2, h3⟩
      by_cases hx : rcX s.data.toList = 0
      · exact walk111 k o n cap l s w h _ _ _ _ _ HA HB HI HJ
          (fun w' g => (HR0 w' g).mono fun e w'' ⟨v, h1, h2, h3⟩ => ⟨v, by rw [h1, hx], h2, h3⟩)
          (fun v w' g hv => (HT0 v w' g hv).mono fun e w'' ⟨h1, h2⟩ => ⟨by rw [h1, ct_read hx], h2⟩)
      · exact walk110 k o n cap l s w h _ _ _ _ _ (by simpa using hx) HA HB HI HJ
          (fun w' g => (HR0 w' g).mono fun e w'' ⟨v, h1, h2, h3⟩ => by
            rw [(rc_no hx).2] at h2
            obtain ⟨o2, c2, rfl⟩ := no_pts h2
            exact ⟨o2, c2, h1, h3⟩)
  · obtain ⟨e1, e2, e3⟩ := iv_ck hck
    have HI : ∀ w', Bl w w' → Calls Tryd.prog 30 #[.agg #[.int .i64 k, .slice o n cap]] w' (RcNo 0 (ckCurve k l) w') := fun w' g =>
      (HI0 w' g).mono fun e w'' ⟨v, h1, h2, h3⟩ => by
        rw [e3] at h2
        obtain ⟨o2, c2, rfl⟩ := no_pts h2
        exact ⟨o2, c2, by rw [h1, e1, e2], h3⟩
    by_cases hx : rcX s.data.toList = 0
    · exact walk001 k o n cap l s w h _ _ (by simpa using hck) 0 _ (by simpa using hck) _ _ HA0 HI
        (fun w' g => (HR0 w' g).mono fun e w'' ⟨v, h1, h2, h3⟩ => ⟨v, by rw [h1, hx], h2, h3⟩)
        (fun v w' g hv => (HT0 v w' g hv).mono fun e w'' ⟨h1, h2⟩ => ⟨by rw [h1, ct_read hx], h2⟩)
    · exact walk000 k o n cap l s w h _ _ (by simpa using hck) 0 _ (by simpa using hck) _ _ (by simpa using hx) HA0 HI
        (fun w' g => (HR0 w' g).mono fun e w'' ⟨v, h1, h2, h3⟩ => by
          rw [(rc_no hx).2] at h2
          obtain ⟨o2, c2, rfl⟩ := no_pts h2
          exact ⟨o2, c2, h1, h3⟩)

theorem own : ownKnob Tryd.prog.godebug = none := by kernel_rfl
theorem laid : laidOutB Tryd.prog = true := by kernel_rfl
/-- What the bound gives: the text's length. -/
theorem short {H : Type} {d : DataW H} {s : ByteArray} (hk : Rows.uptoSmall H ([d, .lit (.string s.data.toList)] ++ []) = true) : s.size ≤ 100000000 := by
  have h : Rows.uptoBulkAll ([d, DataW.lit (H := H) (.string s.data.toList)] ++ []) ≤ 1048576 := of_decide_eq_true hk
  simp only [List.cons_append, List.nil_append, Rows.uptoBulkAll, Rows.uptoBulk] at h
  rw [← lst_len]
  omega

set_option maxRecDepth 100000 in
theorem lifted (os : Os) (started : os.Started) (H : Type) (enc : TypeId × Value → H) (F : Stop.Interp) :
    ReturnsInHanded {} Tryd.checked os 9 .any ((Rows.OpenSpec.upto Rows.levelCurvesComeBackSpec).preRow enc Tryd.prog Tryd.f9 Rows.levelCurvesComeBackUptoRow.domain false Rows.levelCurvesComeBackUptoRow.laid) (((Rows.OpenSpec.upto Rows.levelCurvesComeBackSpec).at F).post enc Tryd.prog Tryd.f9 false true false false) := by
  obtain ⟨places, hx⟩ : ∃ places, DataW.whole enc Tryd.prog ((World.laidAll Tryd.prog os Rows.levelCurvesComeBackUptoRow.laid).forCall (fun _ _ => 0) ⟨#[], #[.agg #[.int .i64 0, .slice none 0 0], .string ⟨#[]⟩], []⟩).memory Tryd.f9.params.toList Rows.levelCurvesComeBackSpec.vars false #[Value.agg #[.int .i64 0, .slice none 0 0], .string ⟨#[]⟩].toList 8 = some ([.agg [.lit (.int .i64 0), .nil], .lit (.string [])], [], places) := ⟨[], by kernel_rfl⟩
  refine returnsInHanded_of_row (C := Tryd.checked) (s := Rows.OpenSpec.upto Rows.levelCurvesComeBackSpec) own started (by kernel_rfl) Tryd.func9
    (witness_tied (C := Tryd.checked) false (World.laidAll Tryd.prog os Rows.levelCurvesComeBackUptoRow.laid) #[.agg #[.int .i64 0, .slice none 0 0], .string ⟨#[]⟩] (World.laidAll_os _ _ _)
      (World.shaped_of_ZipB (by kernel_rfl) (by kernel_rfl)) (by kernel_rfl)
      (OpenSpec.preRow_of_cond 8 hx (by kernel_rfl) (fun k hk => by cases hk; kernel_rfl) (by kernel_rfl)
        (by rw [MakeChecks.laidMetH_plain _ _ _ (by kernel_rfl)]; exact laidMet_laidAll _ (by kernel_rfl) (by kernel_rfl)))) ?_
  intro W base args ds gs before hval0 hW _ hcond _ hL0 hsh _
  obtain ⟨mx, hmx⟩ := maxLen_cell hsh
  have hL : laidMetH Tryd.prog Rows.levelCurvesComeBackUptoRow.laid W := hL0
  rw [MakeChecks.laidMetH_plain _ _ _ (by kernel_rfl)] at hL
  have htab := pow_tab hL.tail.tail
  have hbd := hcond _ rfl
  have hval : ∀ (j : Nat) t v, Tryd.f9.params[j]? = some t → args[j]? = some v → Value.okWide Tryd.prog W .any base t v := hval0
  have hW' := hW
  obtain ⟨p, q, hA0, hV, rfl, hfz, hnd⟩ := hW
  have hA : DataW.TrodAll enc Tryd.prog W 0 (fun _ => true) true Tryd.f9.params.toList args.toList ds p := hA0
  rw [Tryd.params9] at hA hval
  obtain ⟨v0, vs0, d0, ds0, p0, q0, hargs, rfl, rfl, h0, r0⟩ := trodAll_cons hA
  obtain ⟨v1, vs1, d1, ds1, p1, q1, rfl, rfl, rfl, h1, r1⟩ := trodAll_cons r0
  obtain ⟨rfl, rfl, rfl⟩ := trodAll_nil r1
  obtain rfl : args = #[v0, v1] := by cases args; simp_all
  obtain ⟨rfl, rfl⟩ := trodVars_none hV
  obtain ⟨k0, sv0, l0, rfl, wk0, hp0, wp0⟩ := open_curve (hval 0 24 v0 rfl rfl) h0
  obtain ⟨s1, rfl, rfl, rfl, w1⟩ := Go.ChangeMaps.open_string Tryd.underlying9 (hval 1 9 v1 rfl rfl) h1
  clear hA0 hval0
  refine (walk k0 sv0 l0 s1 mx W hp0 (short hbd) htab hmx).mono fun e W' ⟨he, hg⟩ => ?_
  subst he
  exact ⟨_, rfl, law_old hW' rfl rfl (by kernel_rfl) Tryd.underlying4 laid (by kernel_rfl) hg⟩

theorem over : Rows.LevelCurvesComeBackUptoSaid :=
  OpenClaim.holds_of_cond 9 Tryd.f9 rfl rfl rfl rfl rfl rfl rfl ⟨rfl, rfl, rfl, rfl, rfl⟩ rfl rfl rfl rfl rfl (by kernel_rfl) Tryd.func9 (by kernel_rfl)
    (of_decide_eq_true (by kernel_rfl)) (by unfold Func.isWrapper; first | (rw [if_pos (by decide +kernel)]; kernel_rfl) | (rw [if_neg (by decide +kernel)]; exact ⟨rfl, rfl⟩))
    (fun os started H enc _ F => by rw [OpenClaim.pre_eq_preRow]; exact lifted os started H enc F)

/-- The card: the statement. -/
theorem proved : Rows.LevelCurvesComeBackUptoCardSaid :=
  Claim7.holds_tied_plain_at .later [] _ _ _ _ over (fun _ h => by cases h) (by kernel_rfl) (fun _ h => by cases h) levelCurvesComeBackUpto_row_tie rfl ⟨rfl, rfl⟩ (by kernel_rfl) rfl
    (fun f fn hf hfn => by
      obtain rfl : f = 9 := Option.some.inj ((show Tryd.prog.funcNamed "cyclorama/cycloramalaw1.LevelCurvesComeBack" = some 9 by kernel_rfl).symm.trans hf) |>.symm
      obtain rfl : fn = Tryd.f9 := (Option.some.inj (Tryd.func9.symm.trans hfn)).symm
      exact ⟨by kernel_rfl, fun j t ht => by
        rw [Tryd.params9] at ht
        have hm := Array.mem_of_getElem? ht
        have hall : ((#[24, 9] : Array TypeId).toList.all fun u => !Tryd.prog.wantsStandIn u) = true := by kernel_rfl
        exact (show Tryd.prog.wantsStandIn t = false by simpa using List.all_eq_true.1 hall t (by simpa using hm))⟩)
    (by kernel_rfl)
end Go.Proofs.YtfeeolfekfkdiaaDoor.curvback
