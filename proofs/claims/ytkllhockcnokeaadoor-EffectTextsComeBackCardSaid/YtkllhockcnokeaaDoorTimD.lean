/- A time is read as it was written: 1500 milliseconds. -/
import Derived.Test.YtkllhockcnokeaaDoorLib
import Derived.Test.YtkllhockcnokeaaDoorFade
import Derived.Test.YtkllhockcnokeaaDoorBl
import Derived.Test.YtkllhockcnokeaaDoorTabB
namespace Go.Proofs.YtkllhockcnokeaaDoor
open Go.RowKit Go.Sort Go.Lib

theorem isDigits_5 (w : World) : Calls Tryd.prog 70 #[.string ⟨#[53]⟩] w fun e w' => e = .returned (.bool true) ∧ w = w' := by
  go_enter Tryd.func70, Tryd.ntmps70
  go_wp2
  refine wp_loop_rounds 2 ?_
  rw [rounds_succ]
  go_wp2
  rw [rounds_succ]
  go_wp2
  go_returns
  exact ⟨rfl, rfl⟩
theorem isDigits_1 (w : World) : Calls Tryd.prog 70 #[.string ⟨#[49]⟩] w fun e w' => e = .returned (.bool true) ∧ w = w' := by
  go_enter Tryd.func70, Tryd.ntmps70
  go_wp2
  refine wp_loop_rounds 2 ?_
  rw [rounds_succ]
  go_wp2
  rw [rounds_succ]
  go_wp2
  go_returns
  exact ⟨rfl, rfl⟩
theorem number_1 (w : World) : Calls Tryd.prog 54 #[.string ⟨#[49]⟩] w fun e w' => e = .returned (.tuple #[.int .i64 1, .bool true]) ∧ w = w' := by
  go_enter Tryd.func54, Tryd.ntmps54
  go_wp2_with fail
  refine (isDigits_1 _).mono ?_
  rintro e w1 ⟨rfl, rfl⟩
  go_wp2
  refine wp_loop_rounds 2 ?_
  rw [rounds_succ]
  go_wp2
  rw [rounds_succ]
  go_wp2
  go_returns
  exact ⟨rfl, rfl⟩
theorem isBehind_5 (w : World) : Calls Tryd.prog 72 #[.string ⟨#[53]⟩, .int .i64 3] w fun e w' => e = .returned (.bool true) ∧ w = w' := by
  go_enter Tryd.func72, Tryd.ntmps72
  go_wp2_with fail
  refine (isDigits_5 _).mono ?_
  rintro e w1 ⟨rfl, rfl⟩
  go_wp2
  go_returns
  exact ⟨rfl, rfl⟩

/-- Cut finds no colon in "1.5", and the full stop. -/
theorem cut_colon (m : Int) (w : World) (hm : w.cell? ⟨2, 0, none⟩ = some (.int .i64 m)) :
    Calls Tryd.prog 57 #[.string ⟨#[49, 46, 53]⟩, .string ⟨#[58]⟩] w fun e w' => e = .returned (.tuple #[.string ⟨#[49, 46, 53]⟩, .string ⟨#[]⟩, .bool false]) ∧ Bl w w' := by
  refine (Tryd.strings_Cut ⟨#[49, 46, 53]⟩ ⟨#[58]⟩ m w (by decide) hm).mono ?_
  rintro e w' ⟨rfl, n, rfl⟩
  have e1 : Lib.cut (⟨#[49, 46, 53]⟩ : ByteArray).data.toList (⟨#[58]⟩ : ByteArray).data.toList = ([49, 46, 53], [], false) := by decide
  rw [e1]
  exact ⟨rfl, (Bl.refl w).drewN n⟩
theorem cut_stop (m : Int) (w : World) (hm : w.cell? ⟨2, 0, none⟩ = some (.int .i64 m)) :
    Calls Tryd.prog 57 #[.string ⟨#[49, 46, 53]⟩, .string ⟨#[46]⟩] w fun e w' => e = .returned (.tuple #[.string ⟨#[49]⟩, .string ⟨#[53]⟩, .bool true]) ∧ Bl w w' := by
  refine (Tryd.strings_Cut ⟨#[49, 46, 53]⟩ ⟨#[46]⟩ m w (by decide) hm).mono ?_
  rintro e w' ⟨rfl, n, rfl⟩
  have e1 : Lib.cut (⟨#[49, 46, 53]⟩ : ByteArray).data.toList (⟨#[46]⟩ : ByteArray).data.toList = ([49], [53], true) := by decide
  rw [e1]
  exact ⟨rfl, (Bl.refl w).drewN n⟩
set_option maxHeartbeats 800000 in
theorem readParts_15 (m : Int) (w : World) (hm : w.cell? ⟨2, 0, none⟩ = some (.int .i64 m)) :
    Calls Tryd.prog 56 #[.string ⟨#[49, 46, 53]⟩, .int .i64 3] w fun e w' => e = .returned (.tuple #[.int .i64 1500, .bool true]) ∧ Bl w w' := by
  go_enter Tryd.func56, Tryd.ntmps56
  go_wp2_with fail
  refine (cut_stop m _ hm).mono ?_
  rintro e w1 ⟨rfl, g1⟩
  go_wp2_with fail
  refine (number_1 _).mono ?_
  rintro e w2 ⟨rfl, rfl⟩
  go_wp2_with fail
  refine (isBehind_5 _).mono ?_
  rintro e w2 ⟨rfl, rfl⟩
  go_wp2
  refine wp_loop_rounds 4 ?_
  rw [rounds_succ]
  go_wp2
  rw [rounds_succ]
  go_wp2
  rw [rounds_succ]
  go_wp2
  rw [rounds_succ]
  go_wp2
  go_returns
  exact ⟨rfl, g1⟩
theorem itoa_1 (w : World) (ht : TabIs Tryd.prog w "internal/strconv.uint64pow10" .u64 pow10Tab) :
    Calls Tryd.prog 15 #[.int .i64 1] w fun e w' => e = .returned (.string ⟨#[49]⟩) ∧ Bl w w' := by
  refine (Tryd.strconv_Itoa 1 (by decide) (by decide) w ht).mono ?_
  rintro e w' ⟨rfl, hw⟩
  exact ⟨by rw [show Lib.itoa 1 = [49] by first | kernel_rfl | decide +kernel], (Gr.of_grow hw).bl⟩
theorem itoa_1500 (w : World) (ht : TabIs Tryd.prog w "internal/strconv.uint64pow10" .u64 pow10Tab) :
    Calls Tryd.prog 15 #[.int .i64 1500] w fun e w' => e = .returned (.string ⟨#[49, 53, 48, 48]⟩) ∧ Bl w w' := by
  refine (Tryd.strconv_Itoa 1500 (by decide) (by decide) w ht).mono ?_
  rintro e w' ⟨rfl, hw⟩
  exact ⟨by rw [show Lib.itoa 1500 = [49, 53, 48, 48] by first | kernel_rfl | decide +kernel], (Gr.of_grow hw).bl⟩
end Go.Proofs.YtkllhockcnokeaaDoor
