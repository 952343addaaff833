/- ColourTextsComeBack: Read reads what Show writes, for all colours, with no condition. The listed variables are tied to the program's text by the card. -/
import Derived.Test.YtfamnaekelmkpaaDoorHexL
import Derived.Test.YtfamnaekelmkpaaDoorOpenC
import Derived.SizedLaws
namespace Go.Proofs.YtfamnaekelmkpaaDoor.textsback
open Go.ChangeShapes Go.WideShapes Go.ChangeAt Go.RowKit Go.Sort Go.Lib

set_option maxRecDepth 100000 in
set_option maxHeartbeats 1600000 in
theorem walk (r g b : Int) (w : World) (hd : DbAt w) (hev : EvAt w) :
    Calls Tryd.prog 4 #[.agg #[.int .i64 r, .int .i64 g, .int .i64 b]] w fun e w' => e = .returned (.bool true) ∧ Bl w w' := by
  have HS := Lib.hid (fun w' (m : Bl w w') => show_col r g b w' (hd.bl m))
  cases h : isCol r g b with
  | false =>
    have e1 : ckCol r g b = 1 := by unfold ckCol; rw [h]; rfl
    have e2 : shT r g b = [] := by unfold shT; rw [h]; rfl
    have e3 : bs [] = ⟨#[]⟩ := rfl
    rw [e1, e2, e3] at HS
    clear e1 e2 h hd hev e3
    go_enter Tryd.func4, Tryd.ntmps4
    go_wp2_with (go_at_call 8; refine (HS.out _ ((Bl.refl w).alloc _)).mono ?_; rintro e w1 ⟨rfl, m1⟩)
    go_returns
    exact ⟨rfl, ((Bl.refl w).alloc _).trans m1⟩
  | true =>
    obtain ⟨hr, hg, hb⟩ := isCol_iff.1 h
    have e1 : ckCol r g b = 0 := by unfold ckCol; rw [h]; rfl
    have e2 : shT r g b = shC r.toNat g.toNat b.toNat := by unfold shT; rw [h]; rfl
    have e3 := rdC_shC (a := r.toNat) (b := g.toNat) (c := b.toNat) (by omega) (by omega) (by omega)
    rw [e1, e2] at HS
    have HR := Lib.hid (fun w' (m : Bl w w') => read_col (bs (shC r.toNat g.toNat b.toNat)) w' (hev.bl m))
    rw [bs_list] at HR
    obtain ⟨r1, r2⟩ := rd_some e3
    rw [r1, r2] at HR
    simp only [show ((r.toNat : Nat) : Int) = r by omega, show ((g.toNat : Nat) : Int) = g by omega, show ((b.toNat : Nat) : Int) = b by omega, colV] at HR
    clear e1 e2 e3 h hd hev r1 r2 hr hg hb
    generalize bs (shC r.toNat g.toNat b.toNat) = S at *
    have t1 : (r == r) = true := by simp
    have t2 : (g == g) = true := by simp
    have t3 : (b == b) = true := by simp
    go_enter Tryd.func4, Tryd.ntmps4
    go_wp2_with (first
      | (go_at_call 8; refine (HS.out _ ((Bl.refl w).alloc _)).mono ?_; rintro e w1 ⟨rfl, m1⟩)
      | (go_at_call 10; refine (HR.out _ (((Bl.refl w).alloc _).trans m1)).mono ?_; rintro e w2 ⟨rfl, m2⟩; obtain ⟨k0, k1, k2⟩ := new3 _ _ _ _ (m1.trans m2); have hs2 : w.heap.size < w2.heap.size := (by have := (m1.trans m2).size; simp at this; omega)))
    go_returns
    exact ⟨rfl, ((((Bl.refl w).alloc _).trans m1).trans m2).alloc _⟩

theorem own : ownKnob Tryd.prog.godebug = none := by kernel_rfl
theorem laid : laidOutB Tryd.prog = true := by kernel_rfl

set_option maxRecDepth 100000 in
theorem lifted (os : Os) (started : os.Started) (H : Type) (enc : TypeId × Value → H) :
    ReturnsInHanded {} Tryd.checked os 4 .any (fun w args => (Rows.colourTextsComeBackSpec.pre enc Tryd.prog Tryd.f4 Rows.colourTextsComeBackRow.domain false w args ∧ laidMetH Tryd.prog Rows.colourTextsComeBackRow.laid w) ∧ sizedMet enc Tryd.prog Tryd.f4 (OpenSpec.ofChange Rows.colourTextsComeBackSpec) false w args) (Rows.colourTextsComeBackSpec.post enc Tryd.prog Tryd.f4 false true false false) := by
  refine lift_tied (C := Tryd.checked) (X := fun w _ => laidMetH Tryd.prog Rows.colourTextsComeBackRow.laid w) (fun _ _ _ hh h => h.of_heap hh) own started (by kernel_rfl) Tryd.func4
    (ChangeSpec.witness_shaped (enc := enc) (C := Tryd.checked) (os := os) (X := fun w _ => laidMetH Tryd.prog Rows.colourTextsComeBackRow.laid w) false (World.laidAll Tryd.prog os Rows.colourTextsComeBackRow.laid) #[.agg #[.int .i64 0, .int .i64 0, .int .i64 0]] 8 (World.laidAll_os _ _ _)
      (World.shaped_of_ZipB (by kernel_rfl) (by kernel_rfl)) (by kernel_rfl) (by kernel_rfl) (by kernel_rfl)
      (by rw [MakeChecks.laidMetH_plain _ _ _ (by kernel_rfl)]; exact laidMet_laidAll _ (by kernel_rfl) (by kernel_rfl))) ?_
  intro W base args ds gs before hval0 hW hsz0 hL0 hsh
  have hL : laidMetH Tryd.prog Rows.colourTextsComeBackRow.laid W := hL0
  rw [MakeChecks.laidMetH_plain _ _ _ (by kernel_rfl)] at hL
  have hd0 := db_at hL.tail
  have he0 := ev_at hL.tail.tail.tail.tail
  have hval : ∀ (j : Nat) t v, Tryd.f4.params[j]? = some t → args[j]? = some v → Value.okWide Tryd.prog W .any base t v := hval0
  have hW' := hW
  obtain ⟨p, q, hA0, hV, rfl, hfz, hnd⟩ := hW
  have hA : DataW.TrodAll enc Tryd.prog W 0 (fun _ => true) true Tryd.f4.params.toList args.toList ds p := hA0
  rw [Tryd.params4] at hA hval
  obtain ⟨v0, vs0, d0, ds0, p0, q0, hargs, rfl, rfl, h0, r0⟩ := trodAll_cons hA
  obtain ⟨rfl, rfl, rfl⟩ := trodAll_nil r0
  obtain rfl : args = #[v0] := by cases args; simp_all
  obtain ⟨rfl, rfl⟩ := trodVars_none hV
  obtain ⟨cr0, cg0, cb0, rfl, ir0, ig0, ib0⟩ := open_colour (hval 0 23 v0 rfl rfl) h0
  clear hA0 hval0
  refine (walk cr0 cg0 cb0 W hd0 he0).mono fun e W' ⟨he, hg⟩ => ?_
  subst he
  exact ⟨_, rfl, law_old hW' rfl rfl (by kernel_rfl) Tryd.underlying4 laid (by kernel_rfl) hg⟩

theorem over : Rows.colourTextsComeBackRow.holds Tryd.pinned (OpenSpec.ofChange Rows.colourTextsComeBackSpec) :=
  OpenClaim.holds_of_wide 4 Tryd.f4 rfl rfl rfl rfl rfl rfl rfl ⟨rfl, rfl, rfl, rfl, rfl⟩ rfl rfl rfl rfl rfl (by kernel_rfl) Tryd.func4 (by kernel_rfl)
    (of_decide_eq_true (by kernel_rfl)) (by unfold Func.isWrapper; first | (rw [if_pos (by decide +kernel)]; kernel_rfl) | (rw [if_neg (by decide +kernel)]; exact ⟨rfl, rfl⟩))
    (fun os started H enc _ => lifted os started H enc)

/-- The card: the statement. -/
theorem proved : Rows.ColourTextsComeBackCardSaid :=
  Claim7.holds_tied_plain_at .later [] [.data, .data, .data, .sentinel, .sentinel] true (true, "65fd0f82d930e73ad38cfb950db00a2ce35f0a917b8037c028401d88688da543") true over (fun _ h => by cases h) (by kernel_rfl) (fun _ h => by cases h) colourTextsComeBack_row_tie rfl ⟨rfl, rfl⟩ (by kernel_rfl) rfl
    (fun f fn hf hfn => by
      obtain rfl : f = 4 := Option.some.inj ((show Tryd.prog.funcNamed "cyclorama/cycloramalaw3.ColourTextsComeBack" = some 4 by kernel_rfl).symm.trans hf) |>.symm
      obtain rfl : fn = Tryd.f4 := (Option.some.inj (Tryd.func4.symm.trans hfn)).symm
      exact ⟨by kernel_rfl, fun j t ht => by
        rw [Tryd.params4] at ht
        have hm := Array.mem_of_getElem? ht
        have hall : ((#[23] : Array TypeId).toList.all fun u => !Tryd.prog.wantsStandIn u) = true := by kernel_rfl
        exact (show Tryd.prog.wantsStandIn t = false by simpa using List.all_eq_true.1 hall t (by simpa using hm))⟩)
    (by kernel_rfl)
end Go.Proofs.YtfamnaekelmkpaaDoor.textsback

