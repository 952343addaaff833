/- LevelTextsMatchSpec is proved: Show and Read answer as the reference does, for all numbers and all texts; the listed variables are tied to the program's text by the card. -/
import Derived.Test.YtfeeolfekfkdiaaDoorCardKit
import Derived.Test.YtfeeolfekfkdiaaDoorRefS
import Derived.SizedLaws
import Derived.ChangeMaps5
namespace Go.Proofs.YtfeeolfekfkdiaaDoor.textspec
open Go.RowKit Go.ChangeShapes Go.WideShapes Go.ChangeAt Go.Lib

set_option maxHeartbeats 1600000 in
theorem walk (n : Int) (s : ByteArray) (w : World) (hs : s.data.toList.length ≤ reachBytes) (ht : TabIs Tryd.prog w "internal/strconv.uint64pow10" .u64 pow10Tab) :
    Calls Tryd.prog 4 #[.int .i64 n, .string s] w fun e w' => e = .returned (.bool true) ∧ Bl w w' := by
  have hr := reachBytes_lt
  have hsz : s.size ≤ 4611686018427387904 := by rw [← lst_len]; omega
  have HS := Lib.hid (show_any n w ht)
  have HT := Lib.hid (fun w' (g : Gr w w') => showR n w' (tab_bl ht g.bl))
  have HA := Lib.hid (fun w' => read_any s w' hsz)
  have HB := Lib.hid (fun w' => readR s w' hsz)
  unfold lsR at HS HT
  unfold lrR at HA HB
  clear hr hs hsz ht
  generalize bs (if isLev n = true then lvShow n else []) = a at *
  generalize (if isLev n = true then 0 else 1 : Int) = f at *
  generalize lvRead s.data.toList = x at *
  generalize (if lvOk s.data.toList = true then 0 else 9 : Int) = h at *
  go_enter Tryd.func4, Tryd.ntmps4
  go_wp2_with fail
  refine HS.out.mono ?_
  rintro e w1 ⟨rfl, g1⟩
  go_wp2_with fail
  refine (HT.out _ g1).mono ?_
  rintro e w2 ⟨rfl, g2⟩
  go_wp2_with fail
  refine (HA.out _).mono ?_
  rintro e w3 ⟨rfl, g3⟩
  go_wp2_with fail
  refine (HB.out _).mono ?_
  rintro e w4 ⟨rfl, g4⟩
  go_wp2_with fail
  go_returns
  exact ⟨by first | rfl | exact ret_bool' (by simp), (((g1.trans g2).trans g3).bl).trans g4⟩
theorem own : ownKnob Tryd.prog.godebug = none := by kernel_rfl
theorem laid : laidOutB Tryd.prog = true := by kernel_rfl

set_option maxRecDepth 100000 in
theorem lifted (os : Os) (started : os.Started) (H : Type) (enc : TypeId × Value → H) :
    ReturnsInHanded {} Tryd.checked os 4 .any (fun w args => (Rows.levelTextsMatchSpecSpec.pre enc Tryd.prog Tryd.f4 Rows.levelTextsMatchSpecRow.domain false w args ∧ laidMetH Tryd.prog Rows.levelTextsMatchSpecRow.laid w) ∧ sizedMet enc Tryd.prog Tryd.f4 (OpenSpec.ofChange Rows.levelTextsMatchSpecSpec) false w args) (Rows.levelTextsMatchSpecSpec.post enc Tryd.prog Tryd.f4 false true false false) := by
  refine lift_tied (C := Tryd.checked) (X := fun w _ => laidMetH Tryd.prog Rows.levelTextsMatchSpecRow.laid w) (fun _ _ _ hh h => h.of_heap hh) own started (by kernel_rfl) Tryd.func4
    (ChangeSpec.witness_shaped (enc := enc) (C := Tryd.checked) (os := os) (X := fun w _ => laidMetH Tryd.prog Rows.levelTextsMatchSpecRow.laid w) false (World.laidAll Tryd.prog os Rows.levelTextsMatchSpecRow.laid) #[.int .i64 0, .string ⟨#[]⟩] 8 (World.laidAll_os _ _ _)
      (World.shaped_of_ZipB (by kernel_rfl) (by kernel_rfl)) (by kernel_rfl) (by kernel_rfl) (by kernel_rfl)
      (by rw [MakeChecks.laidMetH_plain _ _ _ (by kernel_rfl)]; exact laidMet_laidAll _ (by kernel_rfl) (by kernel_rfl))) ?_
  intro W base args ds gs before hval0 hW hsz0 hL0 hsh
  obtain ⟨mx, hmx⟩ := maxLen_cell hsh
  have hL : laidMetH Tryd.prog Rows.levelTextsMatchSpecRow.laid W := hL0
  rw [MakeChecks.laidMetH_plain _ _ _ (by kernel_rfl)] at hL
  have htab := pow_tab hL.tail.tail
  have hval : ∀ (j : Nat) t v, Tryd.f4.params[j]? = some t → args[j]? = some v → Value.okWide Tryd.prog W .any base t v := hval0
  have hW' := hW
  obtain ⟨p, q, hA0, hV, rfl, hfz, hnd⟩ := hW
  have hA : DataW.TrodAll enc Tryd.prog W 0 (fun _ => true) true Tryd.f4.params.toList args.toList ds p := hA0
  rw [Tryd.params4] at hA hval
  obtain ⟨v0, vs0, d0, ds0, p0, q0, hargs, rfl, rfl, h0, r0⟩ := trodAll_cons hA
  obtain ⟨v1, vs1, d1, ds1, p1, q1, rfl, rfl, rfl, h1, r1⟩ := trodAll_cons r0
  obtain ⟨rfl, rfl, rfl⟩ := trodAll_nil r1
  obtain rfl : args = #[v0, v1] := by cases args; simp_all
  obtain ⟨rfl, rfl⟩ := trodVars_none hV
  obtain ⟨a0, rfl, rfl, rfl, w0⟩ := open_int Tryd.underlying3 (hval 0 3 v0 rfl rfl) h0
  obtain ⟨s1, rfl, rfl, rfl, w1⟩ := Go.ChangeMaps.open_string Tryd.underlying9 (hval 1 9 v1 rfl rfl) h1
  have z1 := Go.sized_string hsz0 (j := 1) (t := 9) (by rw [Tryd.params4]; rfl) rfl
  clear hA0 hval0
  refine (walk a0 s1 W z1 htab).mono fun e W' ⟨he, hg⟩ => ?_
  subst he
  exact ⟨_, rfl, law_old hW' rfl rfl (by kernel_rfl) Tryd.underlying4 laid (by kernel_rfl) hg⟩

theorem over : Rows.levelTextsMatchSpecRow.holds Tryd.pinned (OpenSpec.ofChange Rows.levelTextsMatchSpecSpec) :=
  OpenClaim.holds_of_wide 4 Tryd.f4 rfl rfl rfl rfl rfl rfl rfl ⟨rfl, rfl, rfl, rfl, rfl⟩ rfl rfl rfl rfl rfl (by kernel_rfl) Tryd.func4 (by kernel_rfl)
    (of_decide_eq_true (by kernel_rfl)) (by unfold Func.isWrapper; first | (rw [if_pos (by decide +kernel)]; kernel_rfl) | (rw [if_neg (by decide +kernel)]; exact ⟨rfl, rfl⟩))
    (fun os started H enc _ => lifted os started H enc)

/-- The card: the statement. -/
theorem proved : Rows.LevelTextsMatchSpecCardSaid :=
  Claim7.holds_tied_plain_at .later [] [.data, .data, .data, .sentinel, .sentinel] true (true, "6d4bcf18f56b5f91eecc256040459a48f65d56a536fed741c29f02e83a84d088") true over (fun _ h => by cases h) (by kernel_rfl) (fun _ h => by cases h) levelTextsMatchSpec_row_tie rfl ⟨rfl, rfl⟩ (by kernel_rfl) rfl
    (fun f fn hf hfn => by
      obtain rfl : f = 4 := Option.some.inj ((show Tryd.prog.funcNamed "cyclorama/cycloramalaw1.LevelTextsMatchSpec" = some 4 by kernel_rfl).symm.trans hf) |>.symm
      obtain rfl : fn = Tryd.f4 := (Option.some.inj (Tryd.func4.symm.trans hfn)).symm
      exact ⟨by kernel_rfl, fun j t ht => by
        rw [Tryd.params4] at ht
        have hm := Array.mem_of_getElem? ht
        have hall : ((#[3, 9] : Array TypeId).toList.all fun u => !Tryd.prog.wantsStandIn u) = true := by kernel_rfl
        exact (show Tryd.prog.wantsStandIn t = false by simpa using List.all_eq_true.1 hall t (by simpa using hm))⟩)
    (by kernel_rfl)
end Go.Proofs.YtfeeolfekfkdiaaDoor.textspec

