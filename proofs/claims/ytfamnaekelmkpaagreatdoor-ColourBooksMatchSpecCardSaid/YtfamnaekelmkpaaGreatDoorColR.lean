/- Check of the reference of chapter 3. -/
import Derived.Test.YtfamnaekelmkpaaGreatDoorCol
import Derived.Test.YtfamnaekelmkpaaGreatDoorWithI
import Derived.Test.YtfamnaekelmkpaaGreatDoorBl
namespace Go.Proofs.YtfamnaekelmkpaaGreatDoor
open Go.RowKit

theorem isLevel_isR (n : Int) (v : Bool) (h : isLev n = v) (w : World) :
    Calls Tryz.prog 34 #[.int .i64 n] w fun e w' => e = .returned (.bool v) ∧ w = w' := by
  subst h; exact isLevel_ref n w

set_option maxHeartbeats 800000 in
theorem check_ref3g (r g b : Int) (w : World) :
    Calls Tryz.prog 21 #[.agg #[.int .i64 r, .int .i64 g, .int .i64 b]] w fun e w' => e = .returned (.int .i64 (ckCol r g b)) ∧ Gr w w' := by
  cases h1 : isLev r with
  | false =>
    have e : Hid (ckCol r g b = 1) := by show _ = _; unfold ckCol isCol; rw [h1]; rfl
    have H1 := Lib.hid (isLevel_isR r _ h1)
    clear h1
    go_enter Tryz.func21, Tryz.ntmps21
    go_wp2_with (go_at_call 34; ((with_reducible refine (H1.out _).mono ?_); rintro e w' ⟨rfl, rfl⟩))
    go_returns
    exact ⟨ret_int e.out.symm, (Gr.refl w).alloc _⟩
  | true =>
    have H1 := Lib.hid (isLevel_isR r _ h1)
    cases h2 : isLev g with
    | false =>
      have e : Hid (ckCol r g b = 1) := by show _ = _; unfold ckCol isCol; rw [h1, h2]; rfl
      have H2 := Lib.hid (isLevel_isR g _ h2)
      clear h1 h2
      go_enter Tryz.func21, Tryz.ntmps21
      go_wp2_with (go_at_call 34; (first | ((with_reducible refine (H1.out _).mono ?_); rintro e w' ⟨rfl, rfl⟩) | ((with_reducible refine (H2.out _).mono ?_); rintro e w' ⟨rfl, rfl⟩)))
      go_returns
      exact ⟨ret_int e.out.symm, (Gr.refl w).alloc _⟩
    | true =>
      have H2 := Lib.hid (isLevel_isR g _ h2)
      cases h3 : isLev b with
      | false =>
        have e : Hid (ckCol r g b = 1) := by show _ = _; unfold ckCol isCol; rw [h1, h2, h3]; rfl
        have H3 := Lib.hid (isLevel_isR b _ h3)
        clear h1 h2 h3
        go_enter Tryz.func21, Tryz.ntmps21
        go_wp2_with (go_at_call 34; (first | ((with_reducible refine (H1.out _).mono ?_); rintro e w' ⟨rfl, rfl⟩) | ((with_reducible refine (H2.out _).mono ?_); rintro e w' ⟨rfl, rfl⟩) | ((with_reducible refine (H3.out _).mono ?_); rintro e w' ⟨rfl, rfl⟩)))
        go_returns
        exact ⟨ret_int e.out.symm, (Gr.refl w).alloc _⟩
      | true =>
        have e : Hid (ckCol r g b = 0) := by show _ = _; unfold ckCol isCol; rw [h1, h2, h3]; rfl
        have H3 := Lib.hid (isLevel_isR b _ h3)
        clear h1 h2 h3
        go_enter Tryz.func21, Tryz.ntmps21
        go_wp2_with (go_at_call 34; (first | ((with_reducible refine (H1.out _).mono ?_); rintro e w' ⟨rfl, rfl⟩) | ((with_reducible refine (H2.out _).mono ?_); rintro e w' ⟨rfl, rfl⟩) | ((with_reducible refine (H3.out _).mono ?_); rintro e w' ⟨rfl, rfl⟩)))
        go_returns
        exact ⟨ret_int e.out.symm, (Gr.refl w).alloc _⟩

theorem check_ref3 (r g b : Int) (w : World) :
    Calls Tryz.prog 21 #[.agg #[.int .i64 r, .int .i64 g, .int .i64 b]] w fun e w' => e = .returned (.int .i64 (ckCol r g b)) ∧ Bl w w' := (check_ref3g r g b w).mono fun _ _ ⟨a, c⟩ => ⟨a, c.bl⟩
end Go.Proofs.YtfamnaekelmkpaaGreatDoor
