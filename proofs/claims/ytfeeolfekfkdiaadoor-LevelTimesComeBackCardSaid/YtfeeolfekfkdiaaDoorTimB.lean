/- LevelTimesComeBack is proved: ShowTime and ReadTime are inverse, for all numbers and all texts; the listed variables are tied to the program's text by the card. -/
import Derived.Test.YtfeeolfekfkdiaaDoorCardKit
import Derived.Test.YtfeeolfekfkdiaaDoorTimS
import Derived.SizedLaws
import Derived.ChangeMaps5
namespace Go.Proofs.YtfeeolfekfkdiaaDoor.timback
open Go.RowKit Go.ChangeShapes Go.WideShapes Go.ChangeAt Go.Lib

set_option maxHeartbeats 1600000 in
theorem walk (n : Int) (s : ByteArray) (w : World) (hs : s.data.toList.length ≤ reachBytes) (ht : TabIs Tryd.prog w "internal/strconv.uint64pow10" .u64 pow10Tab) :
    Calls Tryd.prog 7 #[.int .i64 n, .string s] w fun e w' => e = .returned (.bool true) ∧ Bl w w' := by
  have hr := reachBytes_lt
  have hsz : s.size ≤ 4611686018427387904 := by rw [← lst_len]; omega
  have HT := Lib.hid (fun w' (g : Gr w w') => tab_bl ht g.bl)
  have HS := Lib.hid (fun w' (g : Gr w w') => showTime_any n w' (HT.out w' g))
  have HA := Lib.hid (fun w' => readTime_any s w' hsz)
  unfold stR at HS
  unfold rtR at HA
  have hx : (rtX s.data.toList = 0 ∧ isTm (rtV s.data.toList) = true ∧ bs (showT (rtV s.data.toList).toNat) = s) ∨ (rtX s.data.toList ≠ 0 ∧ rtV s.data.toList = 0) := by
    by_cases h1 : tOk s.data.toList = true
    · obtain ⟨e, h0⟩ := time_read h1
      by_cases h2 : tV s.data.toList ≤ 36000000
      · have hv : rtV s.data.toList = tV s.data.toList := if_pos ⟨h1, h2⟩
        refine Or.inl ⟨by unfold rtX; rw [if_pos h1, if_pos h2], ?_, ?_⟩
        · rw [hv]; exact isTm_iff.2 ⟨h0, h2⟩
        · rw [hv, ← e]; exact bs_of s
      · exact Or.inr ⟨by unfold rtX; rw [if_pos h1, if_neg h2]; decide, if_neg (fun h => h2 h.2)⟩
    · exact Or.inr ⟨by unfold rtX; rw [if_neg h1]; decide, if_neg (fun h => h1 h.1)⟩
  have HZ := Lib.hid (fun w' (g : Gr w w') => showTime_any (rtV s.data.toList) w' (HT.out w' g))
  unfold stR at HZ
  clear hr hs hsz ht
  cases hm : isTm n with
  | false =>
    rw [hm] at HS
    simp only [Bool.false_eq_true, if_false] at HS
    rcases hx with ⟨x1, x2, x3⟩ | ⟨x1, x2⟩
    · rw [x2] at HZ
      simp only [if_true] at HZ
      rw [x3] at HZ
      rw [x1] at HA
      clear x1 x2 x3 hm HT
      generalize rtV s.data.toList = v at *
      go_enter Tryd.func7, Tryd.ntmps7
      go_wp2_with fail
      refine (HS.out _ (Gr.refl w)).mono ?_
      rintro e w1 ⟨rfl, g1⟩
      go_wp2_with fail
      refine (HA.out _).mono ?_
      rintro e w2 ⟨rfl, g2⟩
      go_wp2_with fail
      refine (HZ.out _ (g1.trans g2)).mono ?_
      rintro e w3 ⟨rfl, g3⟩
      go_wp2_with fail
      go_returns
      exact ⟨by first | rfl | exact ret_bool' (by simp), ((g1.trans g2).trans g3).bl⟩
    · rw [x2] at HA
      have x1' : (rtX s.data.toList != 0) = true := by simpa using x1
      generalize rtX s.data.toList = v at *
      clear x1 x2 hm HT HZ
      go_enter Tryd.func7, Tryd.ntmps7
      go_wp2_with fail
      refine (HS.out _ (Gr.refl w)).mono ?_
      rintro e w1 ⟨rfl, g1⟩
      go_wp2_with fail
      refine (HA.out _).mono ?_
      rintro e w2 ⟨rfl, g2⟩
      go_wp2_with fail
      go_returns
      exact ⟨by first | rfl | exact ret_bool' (by simp), (g1.trans g2).bl⟩
  | true =>
    rw [hm] at HS
    simp only [if_true] at HS
    obtain ⟨n0, n1⟩ := isTm_iff.1 hm
    have HB := Lib.hid (fun w' => show Calls Tryd.prog 21 #[.string (bs (showT n.toNat))] w' fun e w'' => e = .returned (.tuple #[.int .i64 n, .int .i64 0]) ∧ Gr w' w'' from by
      have hl : (showT n.toNat).length ≤ 30 := by
        have hq := dd_len (n.toNat / 60000) 9 (by decide) (by omega)
        have hd := showD_len (n.toNat % 60000) (by omega)
        unfold showT
        by_cases a : n.toNat / 60000 = 0
        · rw [if_pos a]; omega
        · rw [if_neg a]
          by_cases b : n.toNat % 60000 < 10000
          · rw [if_pos b]; simp; omega
          · rw [if_neg b]; simp; omega
      have := readTime_any (bs (showT n.toNat)) w' (by rw [bs_size]; omega)
      obtain ⟨e1, e2⟩ := time_show n.toNat (by omega)
      unfold rtR rtV rtX at this
      rw [bs_list, e1, e2, if_pos ⟨rfl, by omega⟩, if_pos rfl, if_pos (by omega), show ((n.toNat : Nat) : Int) = n by omega] at this
      exact this)
    rcases hx with ⟨x1, x2, x3⟩ | ⟨x1, x2⟩
    · rw [x2] at HZ
      simp only [if_true] at HZ
      rw [x3] at HZ
      rw [x1] at HA
      clear x1 x2 x3 hm HT
      generalize rtV s.data.toList = v at *
      generalize bs (showT n.toNat) = sn at *
      go_enter Tryd.func7, Tryd.ntmps7
      go_wp2_with fail
      refine (HS.out _ (Gr.refl w)).mono ?_
      rintro e w1 ⟨rfl, g1⟩
      go_wp2_with fail
      refine (HB.out _).mono ?_
      rintro e w4 ⟨rfl, g4⟩
      go_wp2_with fail
      refine (HA.out _).mono ?_
      rintro e w2 ⟨rfl, g2⟩
      go_wp2_with fail
      refine (HZ.out _ ((g1.trans g4).trans g2)).mono ?_
      rintro e w3 ⟨rfl, g3⟩
      go_wp2_with fail
      go_returns
      exact ⟨by first | rfl | exact ret_bool' (by simp), (((g1.trans g4).trans g2).trans g3).bl⟩
    · rw [x2] at HA
      have x1' : (rtX s.data.toList != 0) = true := by simpa using x1
      generalize rtX s.data.toList = v at *
      generalize bs (showT n.toNat) = sn at *
      clear x1 x2 hm HT HZ
      go_enter Tryd.func7, Tryd.ntmps7
      go_wp2_with fail
      refine (HS.out _ (Gr.refl w)).mono ?_
      rintro e w1 ⟨rfl, g1⟩
      go_wp2_with fail
      refine (HB.out _).mono ?_
      rintro e w4 ⟨rfl, g4⟩
      go_wp2_with fail
      refine (HA.out _).mono ?_
      rintro e w2 ⟨rfl, g2⟩
      go_wp2_with fail
      go_returns
      exact ⟨by first | rfl | exact ret_bool' (by simp), ((g1.trans g4).trans g2).bl⟩
theorem own : ownKnob Tryd.prog.godebug = none := by kernel_rfl
theorem laid : laidOutB Tryd.prog = true := by kernel_rfl

set_option maxRecDepth 100000 in
theorem lifted (os : Os) (started : os.Started) (H : Type) (enc : TypeId × Value → H) :
    ReturnsInHanded {} Tryd.checked os 7 .any (fun w args => (Rows.levelTimesComeBackSpec.pre enc Tryd.prog Tryd.f7 Rows.levelTimesComeBackRow.domain false w args ∧ laidMetH Tryd.prog Rows.levelTimesComeBackRow.laid w) ∧ sizedMet enc Tryd.prog Tryd.f7 (OpenSpec.ofChange Rows.levelTimesComeBackSpec) false w args) (Rows.levelTimesComeBackSpec.post enc Tryd.prog Tryd.f7 false true false false) := by
  refine lift_tied (C := Tryd.checked) (X := fun w _ => laidMetH Tryd.prog Rows.levelTimesComeBackRow.laid w) (fun _ _ _ hh h => h.of_heap hh) own started (by kernel_rfl) Tryd.func7
    (ChangeSpec.witness_shaped (enc := enc) (C := Tryd.checked) (os := os) (X := fun w _ => laidMetH Tryd.prog Rows.levelTimesComeBackRow.laid w) false (World.laidAll Tryd.prog os Rows.levelTimesComeBackRow.laid) #[.int .i64 0, .string ⟨#[]⟩] 8 (World.laidAll_os _ _ _)
      (World.shaped_of_ZipB (by kernel_rfl) (by kernel_rfl)) (by kernel_rfl) (by kernel_rfl) (by kernel_rfl)
      (by rw [MakeChecks.laidMetH_plain _ _ _ (by kernel_rfl)]; exact laidMet_laidAll _ (by kernel_rfl) (by kernel_rfl))) ?_
  intro W base args ds gs before hval0 hW hsz0 hL0 hsh
  obtain ⟨mx, hmx⟩ := maxLen_cell hsh
  have hL : laidMetH Tryd.prog Rows.levelTimesComeBackRow.laid W := hL0
  rw [MakeChecks.laidMetH_plain _ _ _ (by kernel_rfl)] at hL
  have htab := pow_tab hL.tail.tail
  have hval : ∀ (j : Nat) t v, Tryd.f7.params[j]? = some t → args[j]? = some v → Value.okWide Tryd.prog W .any base t v := hval0
  have hW' := hW
  obtain ⟨p, q, hA0, hV, rfl, hfz, hnd⟩ := hW
  have hA : DataW.TrodAll enc Tryd.prog W 0 (fun _ => true) true Tryd.f7.params.toList args.toList ds p := hA0
  rw [Tryd.params7] at hA hval
  obtain ⟨v0, vs0, d0, ds0, p0, q0, hargs, rfl, rfl, h0, r0⟩ := trodAll_cons hA
  obtain ⟨v1, vs1, d1, ds1, p1, q1, rfl, rfl, rfl, h1, r1⟩ := trodAll_cons r0
  obtain ⟨rfl, rfl, rfl⟩ := trodAll_nil r1
  obtain rfl : args = #[v0, v1] := by cases args; simp_all
  obtain ⟨rfl, rfl⟩ := trodVars_none hV
  obtain ⟨a0, rfl, rfl, rfl, w0⟩ := open_int Tryd.underlying3 (hval 0 3 v0 rfl rfl) h0
  obtain ⟨s1, rfl, rfl, rfl, w1⟩ := Go.ChangeMaps.open_string Tryd.underlying9 (hval 1 9 v1 rfl rfl) h1
  have z1 := Go.sized_string hsz0 (j := 1) (t := 9) (by rw [Tryd.params7]; rfl) rfl
  clear hA0 hval0
  refine (walk a0 s1 W z1 htab).mono fun e W' ⟨he, hg⟩ => ?_
  subst he
  exact ⟨_, rfl, law_old hW' rfl rfl (by kernel_rfl) Tryd.underlying4 laid (by kernel_rfl) hg⟩

theorem over : Rows.levelTimesComeBackRow.holds Tryd.pinned (OpenSpec.ofChange Rows.levelTimesComeBackSpec) :=
  OpenClaim.holds_of_wide 7 Tryd.f7 rfl rfl rfl rfl rfl rfl rfl ⟨rfl, rfl, rfl, rfl, rfl⟩ rfl rfl rfl rfl rfl (by kernel_rfl) Tryd.func7 (by kernel_rfl)
    (of_decide_eq_true (by kernel_rfl)) (by unfold Func.isWrapper; first | (rw [if_pos (by decide +kernel)]; kernel_rfl) | (rw [if_neg (by decide +kernel)]; exact ⟨rfl, rfl⟩))
    (fun os started H enc _ => lifted os started H enc)

/-- The card: the statement. -/
theorem proved : Rows.LevelTimesComeBackCardSaid :=
  Claim7.holds_tied_plain_at .later [] [.data, .data, .data, .data, .pinned] true (true, "6d4bcf18f56b5f91eecc256040459a48f65d56a536fed741c29f02e83a84d088") true over (fun _ h => by cases h) (by kernel_rfl) (fun _ h => by cases h) levelTimesComeBack_row_tie rfl ⟨rfl, rfl⟩ (by kernel_rfl) rfl
    (fun f fn hf hfn => by
      obtain rfl : f = 7 := Option.some.inj ((show Tryd.prog.funcNamed "cyclorama/cycloramalaw1.LevelTimesComeBack" = some 7 by kernel_rfl).symm.trans hf) |>.symm
      obtain rfl : fn = Tryd.f7 := (Option.some.inj (Tryd.func7.symm.trans hfn)).symm
      exact ⟨by kernel_rfl, fun j t ht => by
        rw [Tryd.params7] at ht
        have hm := Array.mem_of_getElem? ht
        have hall : ((#[3, 9] : Array TypeId).toList.all fun u => !Tryd.prog.wantsStandIn u) = true := by kernel_rfl
        exact (show Tryd.prog.wantsStandIn t = false by simpa using List.all_eq_true.1 hall t (by simpa using hm))⟩)
    (by kernel_rfl)
end Go.Proofs.YtfeeolfekfkdiaaDoor.timback

