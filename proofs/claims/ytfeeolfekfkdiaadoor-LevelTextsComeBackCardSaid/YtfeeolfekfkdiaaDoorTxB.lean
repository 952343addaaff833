/- LevelTextsComeBack is proved: Read reads what Show writes, for all numbers; the listed variables are tied to the program's text by the card. -/
import Derived.Test.YtfeeolfekfkdiaaDoorCardKit
import Derived.Test.YtfeeolfekfkdiaaDoorLvT
import Derived.Test.YtfeeolfekfkdiaaDoorRefI
namespace Go.Proofs.YtfeeolfekfkdiaaDoor.textback
open Go.RowKit Go.ChangeShapes Go.WideShapes Go.ChangeAt Go.Lib

theorem lvShow_len (n : Int) (h0 : 0 ≤ n) (h1 : n ≤ 65535) : (lvShow n).length ≤ 30 := by
  unfold lvShow
  by_cases a : n = 0
  · rw [if_pos a]; decide
  rw [if_neg a]
  by_cases b : n = 65535
  · rw [if_pos b]; decide
  rw [if_neg b]
  by_cases c : rnd (rnd n 65535 100 * 100) 10000 65535 = n
  · rw [if_pos c]
    have p1 : rnd n 65535 100 ≤ 100 := rnd_le (by decide) h1 (by decide)
    have := dd_len (rnd n 65535 100).toNat 9 (by decide) (by omega)
    simp; omega
  · rw [if_neg c]
    have := dd_len n.toNat 9 (by decide) (by omega)
    simp; omega
set_option maxHeartbeats 1600000 in
theorem walk (n : Int) (w : World) (ht : TabIs Tryd.prog w "internal/strconv.uint64pow10" .u64 pow10Tab) :
    Calls Tryd.prog 5 #[.int .i64 n] w fun e w' => e = .returned (.bool true) ∧ Bl w w' := by
  have HS := show_any n w ht
  unfold lsR at HS
  cases hm : isLev n with
  | false =>
    have HI := Lib.hid (fun w => isLevelI n w)
    rw [hm] at HS HI
    simp only [Bool.false_eq_true, if_false] at HS
    have HS := Lib.hid (show Calls Tryd.prog 14 #[.int .i64 n] w fun e w' => e = .returned (.tuple #[.string ⟨#[]⟩, .int .i64 1]) ∧ Gr w w' from HS)
    clear hm ht
    go_enter Tryd.func5, Tryd.ntmps5
    go_wp2_with fail
    refine HS.out.mono ?_
    rintro e w1 ⟨rfl, g1⟩
    go_wp2_with fail
    refine (HI.out _).mono ?_
    rintro e w2 ⟨rfl, rfl⟩
    go_wp2_with fail
    go_returns
    exact ⟨by first | rfl | exact ret_bool' (by simp), g1.bl⟩
  | true =>
    rw [hm] at HS
    simp only [if_true] at HS
    obtain ⟨h0, h1⟩ := isLev_iff.1 hm
    obtain ⟨e1, e2⟩ := level_show n h0 h1
    have HS := Lib.hid HS
    have HR := Lib.hid (fun w' => show Calls Tryd.prog 16 #[.string (bs (lvShow n))] w' fun e w'' => e = .returned (.tuple #[.int .i64 n, .int .i64 0]) ∧ Gr w' w'' from by
      have := read_any (bs (lvShow n)) w' (by rw [bs_size]; have := lvShow_len n h0 h1; omega)
      unfold lrR at this
      rw [bs_list, e1, e2, if_pos rfl] at this
      exact this)
    clear hm ht e1 e2
    generalize bs (lvShow n) = sn at *
    go_enter Tryd.func5, Tryd.ntmps5
    go_wp2_with fail
    refine HS.out.mono ?_
    rintro e w1 ⟨rfl, g1⟩
    go_wp2_with fail
    refine (HR.out _).mono ?_
    rintro e w2 ⟨rfl, g2⟩
    go_wp2_with fail
    go_returns
    exact ⟨by first | rfl | exact ret_bool' (by simp), (g1.trans g2).bl⟩
theorem own : ownKnob Tryd.prog.godebug = none := by kernel_rfl
theorem laid : laidOutB Tryd.prog = true := by kernel_rfl

set_option maxRecDepth 100000 in
theorem lifted (os : Os) (started : os.Started) (H : Type) (enc : TypeId × Value → H) :
    ReturnsInHanded {} Tryd.checked os 5 .any (fun w args => (Rows.levelTextsComeBackSpec.pre enc Tryd.prog Tryd.f5 Rows.levelTextsComeBackRow.domain false w args ∧ laidMetH Tryd.prog Rows.levelTextsComeBackRow.laid w) ∧ sizedMet enc Tryd.prog Tryd.f5 (OpenSpec.ofChange Rows.levelTextsComeBackSpec) false w args) (Rows.levelTextsComeBackSpec.post enc Tryd.prog Tryd.f5 false true false false) := by
  refine lift_tied (C := Tryd.checked) (X := fun w _ => laidMetH Tryd.prog Rows.levelTextsComeBackRow.laid w) (fun _ _ _ hh h => h.of_heap hh) own started (by kernel_rfl) Tryd.func5
    (ChangeSpec.witness_shaped (enc := enc) (C := Tryd.checked) (os := os) (X := fun w _ => laidMetH Tryd.prog Rows.levelTextsComeBackRow.laid w) false (World.laidAll Tryd.prog os Rows.levelTextsComeBackRow.laid) #[.int .i64 0] 8 (World.laidAll_os _ _ _)
      (World.shaped_of_ZipB (by kernel_rfl) (by kernel_rfl)) (by kernel_rfl) (by kernel_rfl) (by kernel_rfl)
      (by rw [MakeChecks.laidMetH_plain _ _ _ (by kernel_rfl)]; exact laidMet_laidAll _ (by kernel_rfl) (by kernel_rfl))) ?_
  intro W base args ds gs before hval0 hW hsz0 hL0 hsh
  obtain ⟨mx, hmx⟩ := maxLen_cell hsh
  have hL : laidMetH Tryd.prog Rows.levelTextsComeBackRow.laid W := hL0
  rw [MakeChecks.laidMetH_plain _ _ _ (by kernel_rfl)] at hL
  have htab := pow_tab hL.tail.tail
  have hval : ∀ (j : Nat) t v, Tryd.f5.params[j]? = some t → args[j]? = some v → Value.okWide Tryd.prog W .any base t v := hval0
  have hW' := hW
  obtain ⟨p, q, hA0, hV, rfl, hfz, hnd⟩ := hW
  have hA : DataW.TrodAll enc Tryd.prog W 0 (fun _ => true) true Tryd.f5.params.toList args.toList ds p := hA0
  rw [Tryd.params5] at hA hval
  obtain ⟨v0, vs0, d0, ds0, p0, q0, hargs, rfl, rfl, h0, r0⟩ := trodAll_cons hA
  obtain ⟨rfl, rfl, rfl⟩ := trodAll_nil r0
  obtain rfl : args = #[v0] := by cases args; simp_all
  obtain ⟨rfl, rfl⟩ := trodVars_none hV
  obtain ⟨a0, rfl, rfl, rfl, w0⟩ := open_int Tryd.underlying3 (hval 0 3 v0 rfl rfl) h0
  clear hA0 hval0
  refine (walk a0 W htab).mono fun e W' ⟨he, hg⟩ => ?_
  subst he
  exact ⟨_, rfl, law_old hW' rfl rfl (by kernel_rfl) Tryd.underlying4 laid (by kernel_rfl) hg⟩

theorem over : Rows.levelTextsComeBackRow.holds Tryd.pinned (OpenSpec.ofChange Rows.levelTextsComeBackSpec) :=
  OpenClaim.holds_of_wide 5 Tryd.f5 rfl rfl rfl rfl rfl rfl rfl ⟨rfl, rfl, rfl, rfl, rfl⟩ rfl rfl rfl rfl rfl (by kernel_rfl) Tryd.func5 (by kernel_rfl)
    (of_decide_eq_true (by kernel_rfl)) (by unfold Func.isWrapper; first | (rw [if_pos (by decide +kernel)]; kernel_rfl) | (rw [if_neg (by decide +kernel)]; exact ⟨rfl, rfl⟩))
    (fun os started H enc _ => lifted os started H enc)

/-- The card: the statement. -/
theorem proved : Rows.LevelTextsComeBackCardSaid :=
  Claim7.holds_tied_plain_at .later [] [.data, .data, .data] true (true, "6d4bcf18f56b5f91eecc256040459a48f65d56a536fed741c29f02e83a84d088") true over (fun _ h => by cases h) (by kernel_rfl) (fun _ h => by cases h) levelTextsComeBack_row_tie rfl ⟨rfl, rfl⟩ (by kernel_rfl) rfl
    (fun f fn hf hfn => by
      obtain rfl : f = 5 := Option.some.inj ((show Tryd.prog.funcNamed "cyclorama/cycloramalaw1.LevelTextsComeBack" = some 5 by kernel_rfl).symm.trans hf) |>.symm
      obtain rfl : fn = Tryd.f5 := (Option.some.inj (Tryd.func5.symm.trans hfn)).symm
      exact ⟨by kernel_rfl, fun j t ht => by
        rw [Tryd.params5] at ht
        have hm := Array.mem_of_getElem? ht
        have hall : ((#[3] : Array TypeId).toList.all fun u => !Tryd.prog.wantsStandIn u) = true := by kernel_rfl
        exact (show Tryd.prog.wantsStandIn t = false by simpa using List.all_eq_true.1 hall t (by simpa using hm))⟩)
    (by kernel_rfl)
end Go.Proofs.YtfeeolfekfkdiaaDoor.textback

