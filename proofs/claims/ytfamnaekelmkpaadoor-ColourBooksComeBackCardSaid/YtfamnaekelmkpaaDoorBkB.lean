/- ColourBooksComeBack: ReadBook reads what BookText writes, for all books, with no condition. The listed variables are tied to the program's text by the card. -/
import Derived.Test.YtfamnaekelmkpaaDoorBkM
import Derived.Test.YtfamnaekelmkpaaDoorRdB
import Derived.Test.YtfamnaekelmkpaaDoorEqG
import Derived.Test.YtfamnaekelmkpaaDoorOpenG
import Derived.Test.YtfamnaekelmkpaaDoorHexL
import Derived.SizedLaws
namespace Go.Proofs.YtfamnaekelmkpaaDoor.booksback
open Go.ChangeShapes Go.WideShapes Go.ChangeAt Go.RowKit Go.Sort Go.Lib

theorem maxLen_at {W : World} (h : W.ShapedOpen Tryd.prog) : MxAt W :=
  cell_of_shapedOpen_int (P := Tryd.prog) (g := 3) (t := 3) (zero := #[.int .i64 0]) h (of_decide_eq_true (by kernel_rfl)) (by kernel_rfl) rfl (by kernel_rfl) (by kernel_rfl) Tryd.underlying3
theorem pow_at3 {W : World} {rest : List (String × DataW Unit)} (h : laidMet Tryd.prog (("internal/strconv.uint64pow10", Rows.laid_internal_strconv_uint64pow10) :: rest) W) : PowAt W :=
  tabIs_of_head (g := 2) (t := 142) (e := 49) (n := 20) (by kernel_rfl) (by kernel_rfl) Tryd.underlying142 Tryd.underlying49 (by kernel_rfl) (by kernel_rfl) h
theorem bkBody_len {e : Gel} (h : GelOk e) : (bkBody e).length ≤ 80 := by
  have := bkLine_len h
  rw [bkLine_body, List.length_append] at this
  omega
/-- A line of a sound gel, read. -/
theorem read_body (e : Gel) (h : GelOk e) (w : World) (hm : MxAt w) (hev : EvAt w) :
    Calls Tryd.prog 35 #[.string (bs (bkBody e))] w fun x w' => x = .returned (.tuple #[gelV e, .bool true]) ∧ Bl w w' := by
  obtain ⟨l1, l2⟩ := ln_body h
  have hlen := bkBody_len h
  have hsp : split1 32 (bs (bkBody e)).data.toList = decDigits e.n.toNat :: shC e.r.toNat e.g.toNat e.b.toNat :: split1 32 e.name.data.toList := by rw [bs_list]; exact bkBody_split
  obtain ⟨⟨h1, h2⟩, h3, h4⟩ := h
  obtain ⟨hr, hg, hb⟩ := isCol_iff.1 h4
  have e3 := rdC_shC (a := e.r.toNat) (b := e.g.toNat) (c := e.b.toNat) (by omega) (by omega) (by omega)
  obtain ⟨r1, r2⟩ := rd_some e3
  have := readGel_ok (bs (bkBody e)) _ _ _ w (by rw [bs_size]; omega) hm hev hsp (dd_numOk (by decide) (show e.n.toNat < 10 ^ 9 by omega)) r1 (by
    rw [jn_split]
    have hne := (isTtl_len h3).2.1
    cases hd : e.name.data.toList with
    | nil => exact absurd hd hne
    | cons _ _ => rfl)
  refine this.mono ?_
  rintro x w' ⟨rfl, hb⟩
  refine ⟨?_, hb⟩
  conv => rhs; rw [← l2]
  unfold lnGel
  rw [bkBody_split]
set_option maxRecDepth 100000 in
set_option maxHeartbeats 1600000 in
theorem walk (v : Value) (L : List Gel) (w : World) (hv : GelVal w v L) (hok : GelsOk L) (hpw : PowAt w) (hd : DbAt w) (hev : EvAt w) (hm : MxAt w) :
    Calls Tryd.prog 5 #[v] w fun e w' => e = .returned (.bool true) ∧ Bl w w' := by
  by_cases h0 : ckBook L = 0
  · have HB := Lib.hid (bookText_ok v L w hv hok h0 hpw hd)
    have hgo := (ckBook_ok h0).2
    have hl5 := (ckBook_ok h0).1
    have hlen := bkTxt_len L hgo
    obtain ⟨q1, q2, q3⟩ := bkTxt_read L 1 hgo
    have HR := Lib.hid (fun w' (m : Bl w w') => readBook_ok (bs (bkTxt L)) L w' (by rw [bs_size]; omega) (by rw [bs_list]; exact q1) (by rw [bs_list]; exact q2) h0 hok (fun line _ hmem w2 m2 => by
      rw [bs_list] at hmem
      obtain ⟨e, he, rfl⟩ := q3 line hmem
      obtain ⟨l1, l2⟩ := ln_body (hgo e he)
      refine (read_body e (hgo e he) w2 (hm.bl (m.trans m2)) (hev.bl (m.trans m2))).mono ?_
      rintro x w3 ⟨rfl, m3⟩
      exact ⟨e, fun _ => l2.symm, by rw [l1], m3⟩))
    have HE := Lib.hid (fun v' w' (m : Bl w w') (h : GelVal w' v' L) => equal_gels v' v L w' h (hv.bl m))
    clear h0 hgo hl5 hlen q1 q2 q3 hv hok hpw hd hev hm
    generalize bs (bkTxt L) = T at *
    go_enter Tryd.func5, Tryd.ntmps5
    go_wp2_with (first
      | (go_at_call 12; refine HB.out.mono ?_; rintro e w1 ⟨rfl, m1⟩)
      | (go_at_call 13; refine (HR.out _ m1).mono ?_; rintro e w2 ⟨v', rfl, hv', m2⟩; have HV := Lib.hid hv'; clear hv')
      | (go_at_call 14; refine (HE.out _ _ (m1.trans m2) HV.out).mono ?_; rintro e w3 ⟨rfl, q, rfl⟩))
    go_returns
    exact ⟨rfl, (m1.trans m2).drewN _⟩
  · have HB := Lib.hid (bookText_no v L w hv hok h0)
    have t1 : (ckBook L != 0) = true := by simpa using h0
    clear h0 hv hok hpw hd hev hm
    generalize ckBook L = X at *
    go_enter Tryd.func5, Tryd.ntmps5
    go_wp2_with (go_at_call 12; refine HB.out.mono ?_; rintro e w1 ⟨rfl, m1⟩)
    go_returns
    exact ⟨rfl, m1⟩

theorem own : ownKnob Tryd.prog.godebug = none := by kernel_rfl
theorem laid : laidOutB Tryd.prog = true := by kernel_rfl

set_option maxRecDepth 100000 in
theorem lifted (os : Os) (started : os.Started) (H : Type) (enc : TypeId × Value → H) :
    ReturnsInHanded {} Tryd.checked os 5 .any (fun w args => (Rows.colourBooksComeBackSpec.pre enc Tryd.prog Tryd.f5 Rows.colourBooksComeBackRow.domain false w args ∧ laidMetH Tryd.prog Rows.colourBooksComeBackRow.laid w) ∧ sizedMet enc Tryd.prog Tryd.f5 (OpenSpec.ofChange Rows.colourBooksComeBackSpec) false w args) (Rows.colourBooksComeBackSpec.post enc Tryd.prog Tryd.f5 false true false false) := by
  refine lift_tied (C := Tryd.checked) (X := fun w _ => laidMetH Tryd.prog Rows.colourBooksComeBackRow.laid w) (fun _ _ _ hh h => h.of_heap hh) own started (by kernel_rfl) Tryd.func5
    (ChangeSpec.witness_shaped (enc := enc) (C := Tryd.checked) (os := os) (X := fun w _ => laidMetH Tryd.prog Rows.colourBooksComeBackRow.laid w) false (World.laidAll Tryd.prog os Rows.colourBooksComeBackRow.laid) #[.slice none 0 0] 8 (World.laidAll_os _ _ _)
      (World.shaped_of_ZipB (by kernel_rfl) (by kernel_rfl)) (by kernel_rfl) (by kernel_rfl) (by kernel_rfl)
      (by rw [MakeChecks.laidMetH_plain _ _ _ (by kernel_rfl)]; exact laidMet_laidAll _ (by kernel_rfl) (by kernel_rfl))) ?_
  intro W base args ds gs before hval0 hW hsz0 hL0 hsh
  have hm0 := maxLen_at hsh
  have hL : laidMetH Tryd.prog Rows.colourBooksComeBackRow.laid W := hL0
  rw [MakeChecks.laidMetH_plain _ _ _ (by kernel_rfl)] at hL
  have hd0 := db_at hL.tail
  have hp0 := pow_at3 hL.tail.tail
  have hv0 := ev_at hL.tail.tail.tail.tail.tail
  have hval : ∀ (j : Nat) t v, Tryd.f5.params[j]? = some t → args[j]? = some v → Value.okWide Tryd.prog W .any base t v := hval0
  have hW' := hW
  obtain ⟨p, q, hA0, hV, rfl, hfz, hnd⟩ := hW
  have hA : DataW.TrodAll enc Tryd.prog W 0 (fun _ => true) true Tryd.f5.params.toList args.toList ds p := hA0
  rw [Tryd.params5] at hA hval
  obtain ⟨v0, vs0, d0, ds0, p0, q0, hargs, rfl, rfl, h0, r0⟩ := trodAll_cons hA
  obtain ⟨rfl, rfl, rfl⟩ := trodAll_nil r0
  obtain rfl : args = #[v0] := by cases args; simp_all
  obtain ⟨rfl, rfl⟩ := trodVars_none hV
  obtain ⟨L0, he0, ho0⟩ := open_gels (hval 0 31 v0 rfl rfl) h0
  clear hA0 hval0
  refine (walk v0 L0 W he0 ho0 hp0 hd0 hv0 hm0).mono fun e W' ⟨he, hg⟩ => ?_
  subst he
  exact ⟨_, rfl, law_old hW' rfl rfl (by kernel_rfl) Tryd.underlying4 laid (by kernel_rfl) hg⟩

theorem over : Rows.colourBooksComeBackRow.holds Tryd.pinned (OpenSpec.ofChange Rows.colourBooksComeBackSpec) :=
  OpenClaim.holds_of_wide 5 Tryd.f5 rfl rfl rfl rfl rfl rfl rfl ⟨rfl, rfl, rfl, rfl, rfl⟩ rfl rfl rfl rfl rfl (by kernel_rfl) Tryd.func5 (by kernel_rfl)
    (of_decide_eq_true (by kernel_rfl)) (by unfold Func.isWrapper; first | (rw [if_pos (by decide +kernel)]; kernel_rfl) | (rw [if_neg (by decide +kernel)]; exact ⟨rfl, rfl⟩))
    (fun os started H enc _ => lifted os started H enc)

/-- The card: the statement. -/
theorem proved : Rows.ColourBooksComeBackCardSaid :=
  Claim7.holds_tied_plain_at .later [] [.data, .data, .data, .data, .sentinel, .sentinel, .pinned] true (true, "65fd0f82d930e73ad38cfb950db00a2ce35f0a917b8037c028401d88688da543") true over (fun _ h => by cases h) (by kernel_rfl) (fun _ h => by cases h) colourBooksComeBack_row_tie rfl ⟨rfl, rfl⟩ (by kernel_rfl) rfl
    (fun f fn hf hfn => by
      obtain rfl : f = 5 := Option.some.inj ((show Tryd.prog.funcNamed "cyclorama/cycloramalaw3.ColourBooksComeBack" = some 5 by kernel_rfl).symm.trans hf) |>.symm
      obtain rfl : fn = Tryd.f5 := (Option.some.inj (Tryd.func5.symm.trans hfn)).symm
      exact ⟨by kernel_rfl, fun j t ht => by
        rw [Tryd.params5] at ht
        have hm := Array.mem_of_getElem? ht
        have hall : ((#[31] : Array TypeId).toList.all fun u => !Tryd.prog.wantsStandIn u) = true := by kernel_rfl
        exact (show Tryd.prog.wantsStandIn t = false by simpa using List.all_eq_true.1 hall t (by simpa using hm))⟩)
    (by kernel_rfl)
end Go.Proofs.YtfamnaekelmkpaaDoor.booksback

