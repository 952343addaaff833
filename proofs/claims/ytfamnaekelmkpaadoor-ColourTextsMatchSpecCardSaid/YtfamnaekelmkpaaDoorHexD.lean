/- ColourTextsMatchSpec: Show and Read answer as the reference does, for all colours and all texts, with no condition. The listed variables are tied to the program's text by the card. -/
import Derived.Test.YtfamnaekelmkpaaDoorHexL
import Derived.Test.YtfamnaekelmkpaaDoorHexT
import Derived.Test.YtfamnaekelmkpaaDoorOpenC
import Derived.SizedLaws
namespace Go.Proofs.YtfamnaekelmkpaaDoor.textsmatch
open Go.ChangeShapes Go.WideShapes Go.ChangeAt Go.RowKit Go.Sort Go.Lib

set_option maxRecDepth 100000 in
set_option maxHeartbeats 1600000 in
theorem walk (r g b : Int) (s : ByteArray) (w : World) (hd : DbAt w) (hev : EvAt w) :
    Calls Tryd.prog 3 #[.agg #[.int .i64 r, .int .i64 g, .int .i64 b], .string s] w fun e w' => e = .returned (.bool true) ∧ Bl w w' := by
  have H1 := Lib.hid (fun w' (m : Bl w w') => show_col r g b w' (hd.bl m))
  have H2 := Lib.hid (fun w' (m : Bl w w') => showR_col r g b w' (hd.bl m))
  have H3 := Lib.hid (fun w' (m : Bl w w') => read_col s w' (hev.bl m))
  have H4 := Lib.hid (fun w' => readR_col s w')
  clear hd hev
  simp only [colV] at H3 H4
  generalize bs (shT r g b) = T at *
  generalize ckCol r g b = X at *
  generalize (rdV s.data.toList).1 = a1 at *
  generalize (rdV s.data.toList).2.1 = a2 at *
  generalize (rdV s.data.toList).2.2 = a3 at *
  generalize rdX s.data.toList = Y at *
  have t1 : (T.toList == T.toList) = true := by simp
  have t2 : (X == X) = true := by simp
  have t3 : (a1 == a1) = true := by simp
  have t4 : (a2 == a2) = true := by simp
  have t5 : (a3 == a3) = true := by simp
  have t6 : (Y == Y) = true := by simp
  go_enter Tryd.func3, Tryd.ntmps3
  go_wp2_with (first
    | (go_at_call 8; refine (H1.out _ ((Bl.refl w).alloc _)).mono ?_; rintro e w1 ⟨rfl, m1⟩; obtain ⟨k0, k1, k2⟩ := new3 _ _ _ _ m1; have b1 : Bl w w1 := ((Bl.refl w).alloc _).trans m1; clear m1)
    | (go_at_call 9; refine (H2.out _ b1).mono ?_; rintro e w2 ⟨rfl, m2⟩; have b2 : Bl w w2 := b1.trans m2; clear b1 m2 k0 k1 k2)
    | (go_at_call 10; refine (H3.out _ b2).mono ?_; rintro e w3 ⟨rfl, m3⟩; have b3 : Bl w w3 := b2.trans m3; clear b2 m3)
    | (go_at_call 11; refine (H4.out _).mono ?_; rintro e w4 ⟨rfl, m4⟩; obtain ⟨k0, k1, k2⟩ := new3 _ _ _ _ m4; have hs3 : w3.heap.size < w4.heap.size := (by have := m4.size; simp at this; omega); have b4 : Bl w w4 := (b3.alloc _).trans m4; clear m4 b3))
  go_returns
  exact ⟨rfl, b4.alloc _⟩

theorem own : ownKnob Tryd.prog.godebug = none := by kernel_rfl
theorem laid : laidOutB Tryd.prog = true := by kernel_rfl

set_option maxRecDepth 100000 in
theorem lifted (os : Os) (started : os.Started) (H : Type) (enc : TypeId × Value → H) :
    ReturnsInHanded {} Tryd.checked os 3 .any (fun w args => (Rows.colourTextsMatchSpecSpec.pre enc Tryd.prog Tryd.f3 Rows.colourTextsMatchSpecRow.domain false w args ∧ laidMetH Tryd.prog Rows.colourTextsMatchSpecRow.laid w) ∧ sizedMet enc Tryd.prog Tryd.f3 (OpenSpec.ofChange Rows.colourTextsMatchSpecSpec) false w args) (Rows.colourTextsMatchSpecSpec.post enc Tryd.prog Tryd.f3 false true false false) := by
  refine lift_tied (C := Tryd.checked) (X := fun w _ => laidMetH Tryd.prog Rows.colourTextsMatchSpecRow.laid w) (fun _ _ _ hh h => h.of_heap hh) own started (by kernel_rfl) Tryd.func3
    (ChangeSpec.witness_shaped (enc := enc) (C := Tryd.checked) (os := os) (X := fun w _ => laidMetH Tryd.prog Rows.colourTextsMatchSpecRow.laid w) false (World.laidAll Tryd.prog os Rows.colourTextsMatchSpecRow.laid) #[.agg #[.int .i64 0, .int .i64 0, .int .i64 0], .string ⟨#[]⟩] 8 (World.laidAll_os _ _ _)
      (World.shaped_of_ZipB (by kernel_rfl) (by kernel_rfl)) (by kernel_rfl) (by kernel_rfl) (by kernel_rfl)
      (by rw [MakeChecks.laidMetH_plain _ _ _ (by kernel_rfl)]; exact laidMet_laidAll _ (by kernel_rfl) (by kernel_rfl))) ?_
  intro W base args ds gs before hval0 hW hsz0 hL0 hsh
  have hL : laidMetH Tryd.prog Rows.colourTextsMatchSpecRow.laid W := hL0
  rw [MakeChecks.laidMetH_plain _ _ _ (by kernel_rfl)] at hL
  have hd0 := db_at hL.tail
  have he0 := ev_at hL.tail.tail.tail.tail
  have hval : ∀ (j : Nat) t v, Tryd.f3.params[j]? = some t → args[j]? = some v → Value.okWide Tryd.prog W .any base t v := hval0
  have hW' := hW
  obtain ⟨p, q, hA0, hV, rfl, hfz, hnd⟩ := hW
  have hA : DataW.TrodAll enc Tryd.prog W 0 (fun _ => true) true Tryd.f3.params.toList args.toList ds p := hA0
  rw [Tryd.params3] at hA hval
  obtain ⟨v0, vs0, d0, ds0, p0, q0, hargs, rfl, rfl, h0, r0⟩ := trodAll_cons hA
  obtain ⟨v1, vs1, d1, ds1, p1, q1, rfl, rfl, rfl, h1, r1⟩ := trodAll_cons r0
  obtain ⟨rfl, rfl, rfl⟩ := trodAll_nil r1
  obtain rfl : args = #[v0, v1] := by cases args; simp_all
  obtain ⟨rfl, rfl⟩ := trodVars_none hV
  obtain ⟨cr0, cg0, cb0, rfl, ir0, ig0, ib0⟩ := open_colour (hval 0 23 v0 rfl rfl) h0
  obtain ⟨s1, rfl, rfl, rfl, w1⟩ := Go.ChangeMaps.open_string Tryd.underlying9 (hval 1 9 v1 rfl rfl) h1
  have z1 := Go.sized_string hsz0 (j := 1) (t := 9) (by rw [Tryd.params3]; rfl) rfl
  clear hA0 hval0
  refine (walk cr0 cg0 cb0 s1 W hd0 he0).mono fun e W' ⟨he, hg⟩ => ?_
  subst he
  exact ⟨_, rfl, law_old hW' rfl rfl (by kernel_rfl) Tryd.underlying4 laid (by kernel_rfl) hg⟩

theorem over : Rows.colourTextsMatchSpecRow.holds Tryd.pinned (OpenSpec.ofChange Rows.colourTextsMatchSpecSpec) :=
  OpenClaim.holds_of_wide 3 Tryd.f3 rfl rfl rfl rfl rfl rfl rfl ⟨rfl, rfl, rfl, rfl, rfl⟩ rfl rfl rfl rfl rfl (by kernel_rfl) Tryd.func3 (by kernel_rfl)
    (of_decide_eq_true (by kernel_rfl)) (by unfold Func.isWrapper; first | (rw [if_pos (by decide +kernel)]; kernel_rfl) | (rw [if_neg (by decide +kernel)]; exact ⟨rfl, rfl⟩))
    (fun os started H enc _ => lifted os started H enc)

/-- The card: the statement. -/
theorem proved : Rows.ColourTextsMatchSpecCardSaid :=
  Claim7.holds_tied_plain_at .later [] [.data, .data, .data, .sentinel, .sentinel] true (true, "65fd0f82d930e73ad38cfb950db00a2ce35f0a917b8037c028401d88688da543") true over (fun _ h => by cases h) (by kernel_rfl) (fun _ h => by cases h) colourTextsMatchSpec_row_tie rfl ⟨rfl, rfl⟩ (by kernel_rfl) rfl
    (fun f fn hf hfn => by
      obtain rfl : f = 3 := Option.some.inj ((show Tryd.prog.funcNamed "cyclorama/cycloramalaw3.ColourTextsMatchSpec" = some 3 by kernel_rfl).symm.trans hf) |>.symm
      obtain rfl : fn = Tryd.f3 := (Option.some.inj (Tryd.func3.symm.trans hfn)).symm
      exact ⟨by kernel_rfl, fun j t ht => by
        rw [Tryd.params3] at ht
        have hm := Array.mem_of_getElem? ht
        have hall : ((#[23, 9] : Array TypeId).toList.all fun u => !Tryd.prog.wantsStandIn u) = true := by kernel_rfl
        exact (show Tryd.prog.wantsStandIn t = false by simpa using List.all_eq_true.1 hall t (by simpa using hm))⟩)
    (by kernel_rfl)
end Go.Proofs.YtfamnaekelmkpaaDoor.textsmatch

