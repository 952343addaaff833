/- A time is read as it was written: 1500 milliseconds. -/
import Derived.Test.YtfeeolfekfkdiaaDoorLib
import Derived.Test.YtfeeolfekfkdiaaDoorFade
import Derived.Test.YtfeeolfekfkdiaaDoorBl
namespace Go.Proofs.YtfeeolfekfkdiaaDoor
open Go.RowKit Go.Sort Go.Lib

theorem isDigits_5 (w : World) : Calls Tryd.prog 77 #[.string ⟨#[53]⟩] w fun e w' => e = .returned (.bool true) ∧ w = w' := by
  go_enter Tryd.func77, Tryd.ntmps77
  go_wp2
  refine wp_loop_rounds 2 ?_
  rw [rounds_succ]
  go_wp2
  rw [rounds_succ]
  go_wp2
  go_returns
  exact ⟨rfl, rfl⟩
theorem isDigits_1 (w : World) : Calls Tryd.prog 77 #[.string ⟨#[49]⟩] w fun e w' => e = .returned (.bool true) ∧ w = w' := by
  go_enter Tryd.func77, Tryd.ntmps77
  go_wp2
  refine wp_loop_rounds 2 ?_
  rw [rounds_succ]
  go_wp2
  rw [rounds_succ]
  go_wp2
  go_returns
  exact ⟨rfl, rfl⟩
theorem number_1 (w : World) : Calls Tryd.prog 45 #[.string ⟨#[49]⟩] w fun e w' => e = .returned (.tuple #[.int .i64 1, .bool true]) ∧ w = w' := by
  go_enter Tryd.func45, Tryd.ntmps45
  go_wp2_with fail
  refine (isDigits_1 _).mono ?_
  rintro e w1 ⟨rfl, rfl⟩
  go_wp2
  refine wp_loop_rounds 2 ?_
  rw [rounds_succ]
  go_wp2
  rw [rounds_succ]
  go_wp2
  go_returns
  exact ⟨rfl, rfl⟩
theorem isBehind_5 (w : World) : Calls Tryd.prog 79 #[.string ⟨#[53]⟩, .int .i64 3] w fun e w' => e = .returned (.bool true) ∧ w = w' := by
  go_enter Tryd.func79, Tryd.ntmps79
  go_wp2_with fail
  refine (isDigits_5 _).mono ?_
  rintro e w1 ⟨rfl, rfl⟩
  go_wp2
  go_returns
  exact ⟨rfl, rfl⟩

/-- Cut finds no colon in "1.5", and the full stop. -/
theorem cut_colon (m : Int) (w : World) (hm : w.cell? ⟨0, 0, none⟩ = some (.int .i64 m)) :
    Calls Tryd.prog 55 #[.string ⟨#[49, 46, 53]⟩, .string ⟨#[58]⟩] w fun e w' => e = .returned (.tuple #[.string ⟨#[49, 46, 53]⟩, .string ⟨#[]⟩, .bool false]) ∧ Bl w w' := by
  refine (Tryd.strings_Cut ⟨#[49, 46, 53]⟩ ⟨#[58]⟩ m w (by decide) hm).mono ?_
  rintro e w' ⟨rfl, n, rfl⟩
  have e1 : Lib.cut (⟨#[49, 46, 53]⟩ : ByteArray).data.toList (⟨#[58]⟩ : ByteArray).data.toList = ([49, 46, 53], [], false) := by decide
  rw [e1]
  exact ⟨rfl, (Bl.refl w).drewN n⟩
theorem cut_stop (m : Int) (w : World) (hm : w.cell? ⟨0, 0, none⟩ = some (.int .i64 m)) :
    Calls Tryd.prog 55 #[.string ⟨#[49, 46, 53]⟩, .string ⟨#[46]⟩] w fun e w' => e = .returned (.tuple #[.string ⟨#[49]⟩, .string ⟨#[53]⟩, .bool true]) ∧ Bl w w' := by
  refine (Tryd.strings_Cut ⟨#[49, 46, 53]⟩ ⟨#[46]⟩ m w (by decide) hm).mono ?_
  rintro e w' ⟨rfl, n, rfl⟩
  have e1 : Lib.cut (⟨#[49, 46, 53]⟩ : ByteArray).data.toList (⟨#[46]⟩ : ByteArray).data.toList = ([49], [53], true) := by decide
  rw [e1]
  exact ⟨rfl, (Bl.refl w).drewN n⟩
set_option maxHeartbeats 800000 in
theorem readParts_15 (m : Int) (w : World) (hm : w.cell? ⟨0, 0, none⟩ = some (.int .i64 m)) :
    Calls Tryd.prog 47 #[.string ⟨#[49, 46, 53]⟩, .int .i64 3] w fun e w' => e = .returned (.tuple #[.int .i64 1500, .bool true]) ∧ Bl w w' := by
  go_enter Tryd.func47, Tryd.ntmps47
  go_wp2_with fail
  refine (cut_stop m _ hm).mono ?_
  rintro e w1 ⟨rfl, g1⟩
  go_wp2_with fail
  refine (number_1 _).mono ?_
  rintro e w2 ⟨rfl, rfl⟩
  go_wp2_with fail
  refine (isBehind_5 _).mono ?_
  rintro e w2 ⟨rfl, rfl⟩
  go_wp2
  refine wp_loop_rounds 4 ?_
  rw [rounds_succ]
  go_wp2
  rw [rounds_succ]
  go_wp2
  rw [rounds_succ]
  go_wp2
  rw [rounds_succ]
  go_wp2
  go_returns
  exact ⟨rfl, g1⟩
theorem parseTime_15 (m : Int) (w : World) (hm : w.cell? ⟨0, 0, none⟩ = some (.int .i64 m)) :
    Calls Tryd.prog 54 #[.string ⟨#[49, 46, 53]⟩] w fun e w' => e = .returned (.tuple #[.int .i64 1500, .bool true]) ∧ Bl w w' := by
  go_enter Tryd.func54, Tryd.ntmps54
  go_wp2_with fail
  refine (cut_colon m _ hm).mono ?_
  rintro e w1 ⟨rfl, g1⟩
  go_wp2_with fail
  refine (readParts_15 m _ (g1.cell hm)).mono ?_
  rintro e w2 ⟨rfl, g2⟩
  go_wp2_with fail
  go_returns
  exact ⟨rfl, g1.trans g2⟩
theorem readTime_15 (m : Int) (w : World) (hm : w.cell? ⟨0, 0, none⟩ = some (.int .i64 m)) :
    Calls Tryd.prog 21 #[.string ⟨#[49, 46, 53]⟩] w fun e w' => e = .returned (.tuple #[.int .i64 1500, .int .i64 0]) ∧ Bl w w' := by
  have HI := fun w => isTime_any 1500 w
  go_enter Tryd.func21, Tryd.ntmps21
  go_wp2_with fail
  refine (parseTime_15 m _ hm).mono ?_
  rintro e w1 ⟨rfl, g1⟩
  go_wp2_with fail
  refine (HI _).mono ?_
  rintro e w2 ⟨rfl, rfl⟩
  go_wp2_with fail
  go_returns
  exact ⟨rfl, g1⟩

theorem tab_bl {w w' : World} {name : String} {k : IntKind} {zs : List Int} (h : TabIs Tryd.prog w name k zs) (g : Bl w w') : TabIs Tryd.prog w' name k zs := by
  unfold TabIs World.var? at h ⊢
  generalize Tryd.prog.globalNamed name = og at h ⊢
  cases og with
  | none => cases h
  | some b =>
    simp only [Option.bind_some] at h ⊢
    have hlt : b < w.heap.size := by
      rcases Nat.lt_or_ge b w.heap.size with hlt | hge
      · exact hlt
      · rw [Array.getElem?_eq_none hge] at h; cases h
    rw [g.block b hlt]
    exact h
theorem itoa_1 (w : World) (ht : TabIs Tryd.prog w "internal/strconv.uint64pow10" .u64 pow10Tab) :
    Calls Tryd.prog 42 #[.int .i64 1] w fun e w' => e = .returned (.string ⟨#[49]⟩) ∧ Bl w w' := by
  refine (Tryd.strconv_Itoa 1 (by decide) (by decide) w ht).mono ?_
  rintro e w' ⟨rfl, hw⟩
  exact ⟨by rw [show Lib.itoa 1 = [49] by first | kernel_rfl | decide +kernel], (Gr.of_grow hw).bl⟩
theorem itoa_1500 (w : World) (ht : TabIs Tryd.prog w "internal/strconv.uint64pow10" .u64 pow10Tab) :
    Calls Tryd.prog 42 #[.int .i64 1500] w fun e w' => e = .returned (.string ⟨#[49, 53, 48, 48]⟩) ∧ Bl w w' := by
  refine (Tryd.strconv_Itoa 1500 (by decide) (by decide) w ht).mono ?_
  rintro e w' ⟨rfl, hw⟩
  exact ⟨by rw [show Lib.itoa 1500 = [49, 53, 48, 48] by first | kernel_rfl | decide +kernel], (Gr.of_grow hw).bl⟩
theorem trim_500 (w : World) : Calls Tryd.prog 82 #[.string ⟨#[53, 48, 48]⟩, .string ⟨#[48]⟩] w fun e w' => e = .returned (.string ⟨#[53]⟩) ∧ w = w' := by
  refine (Tryd.strings_TrimRight_one ⟨#[53, 48, 48]⟩ 48 (by decide) w (by decide)).mono ?_
  rintro e w' ⟨rfl, hw⟩
  exact ⟨by rw [show Lib.trimRightB (⟨#[53, 48, 48]⟩ : ByteArray).data.toList 48 = [53] by decide], hw.symm⟩
set_option maxHeartbeats 800000 in
theorem showParts_1500 (w : World) (ht : TabIs Tryd.prog w "internal/strconv.uint64pow10" .u64 pow10Tab) :
    Calls Tryd.prog 51 #[.int .i64 1500, .int .i64 3] w fun e w' => e = .returned (.string ⟨#[49, 46, 53]⟩) ∧ Bl w w' := by
  have HT := Lib.hid ht
  clear ht
  go_enter Tryd.func51, Tryd.ntmps51
  go_wp2
  refine wp_loop_rounds 4 ?_
  rw [rounds_succ]
  go_wp2
  rw [rounds_succ]
  go_wp2
  rw [rounds_succ]
  go_wp2
  rw [rounds_succ]
  go_wp2_with fail
  refine (itoa_1 _ HT.out).mono ?_
  rintro e w1 ⟨rfl, g1⟩
  go_wp2_with fail
  refine (itoa_1500 _ (tab_bl HT.out g1)).mono ?_
  rintro e w2 ⟨rfl, g2⟩
  go_wp2_with fail
  refine (trim_500 _).mono ?_
  rintro e w3 ⟨rfl, rfl⟩
  go_wp2_with fail
  go_returns
  exact ⟨rfl, g1.trans g2⟩
theorem showTime_1500 (w : World) (ht : TabIs Tryd.prog w "internal/strconv.uint64pow10" .u64 pow10Tab) :
    Calls Tryd.prog 19 #[.int .i64 1500] w fun e w' => e = .returned (.tuple #[.string ⟨#[49, 46, 53]⟩, .int .i64 0]) ∧ Bl w w' := by
  have HI := fun w => isTime_any 1500 w
  have HT := Lib.hid ht
  clear ht
  go_enter Tryd.func19, Tryd.ntmps19
  go_wp2_with fail
  refine (HI _).mono ?_
  rintro e w2 ⟨rfl, rfl⟩
  go_wp2_with fail
  refine (showParts_1500 _ HT.out).mono ?_
  rintro e w1 ⟨rfl, g1⟩
  go_wp2_with fail
  go_returns
  exact ⟨rfl, g1⟩
theorem timesAreRead_ok (m : Int) (w : World) (ht : TabIs Tryd.prog w "internal/strconv.uint64pow10" .u64 pow10Tab) (hm : w.cell? ⟨0, 0, none⟩ = some (.int .i64 m)) :
    Calls Tryd.prog 11 #[] w fun e w' => e = .returned (.bool true) ∧ Bl w w' := by
  have HT := Lib.hid ht
  clear ht
  go_enter Tryd.func11, Tryd.ntmps11
  go_wp2_with fail
  refine (showTime_1500 _ HT.out).mono ?_
  rintro e w1 ⟨rfl, g1⟩
  go_wp2_with fail
  refine (readTime_15 m _ (g1.cell hm)).mono ?_
  rintro e w2 ⟨rfl, g2⟩
  go_wp2_with fail
  go_returns
  exact ⟨rfl, g1.trans g2⟩
end Go.Proofs.YtfeeolfekfkdiaaDoor
