/- Colours: Check, checkBoth, rounded. -/
import Derived.Test.YtfamnaekelmkpaaGreatDoorLevI
import Derived.Test.YtfamnaekelmkpaaGreatDoorToneM
namespace Go.Proofs.YtfamnaekelmkpaaGreatDoor
open Go.RowKit Go.Sort

/-- A colour, as a value. -/
def colV (r g b : Int) : Value := .agg #[.int .i64 r, .int .i64 g, .int .i64 b]
def isCol (r g b : Int) : Bool := isLev r && isLev g && isLev b
theorem isCol_iff {r g b : Int} : isCol r g b = true ↔ (0 ≤ r ∧ r ≤ 65535) ∧ (0 ≤ g ∧ g ≤ 65535) ∧ (0 ≤ b ∧ b ≤ 65535) := by
  unfold isCol; rw [Bool.and_eq_true, Bool.and_eq_true, isLev_iff, isLev_iff, isLev_iff]; exact ⟨fun ⟨⟨a, b⟩, c⟩ => ⟨a, b, c⟩, fun ⟨a, b, c⟩ => ⟨⟨a, b⟩, c⟩⟩
/-- What Check says. -/
def ckCol (r g b : Int) : Int := if isCol r g b = true then 0 else 1

theorem isLevel_is (n : Int) (v : Bool) (h : isLev n = v) (w : World) :
    Calls Tryz.prog 33 #[.int .i64 n] w fun e w' => e = .returned (.bool v) ∧ w = w' := by
  subst h; exact isLevel_any n w

set_option maxHeartbeats 800000 in
theorem check_col (r g b : Int) (w : World) :
    Calls Tryz.prog 18 #[.agg #[.int .i64 r, .int .i64 g, .int .i64 b]] w fun e w' => e = .returned (.int .i64 (ckCol r g b)) ∧ Gr w w' := by
  cases h1 : isLev r with
  | false =>
    have e : Hid (ckCol r g b = 1) := by show _ = _; unfold ckCol isCol; rw [h1]; rfl
    have H1 := Lib.hid (isLevel_is r _ h1)
    clear h1
    go_enter Tryz.func18, Tryz.ntmps18
    go_wp2_with (go_at_call 33; ((with_reducible refine (H1.out _).mono ?_); rintro e w' ⟨rfl, rfl⟩))
    go_returns
    exact ⟨ret_int e.out.symm, (Gr.refl w).alloc _⟩
  | true =>
    have H1 := Lib.hid (isLevel_is r _ h1)
    cases h2 : isLev g with
    | false =>
      have e : Hid (ckCol r g b = 1) := by show _ = _; unfold ckCol isCol; rw [h1, h2]; rfl
      have H2 := Lib.hid (isLevel_is g _ h2)
      clear h1 h2
      go_enter Tryz.func18, Tryz.ntmps18
      go_wp2_with (go_at_call 33; (first | ((with_reducible refine (H1.out _).mono ?_); rintro e w' ⟨rfl, rfl⟩) | ((with_reducible refine (H2.out _).mono ?_); rintro e w' ⟨rfl, rfl⟩)))
      go_returns
      exact ⟨ret_int e.out.symm, (Gr.refl w).alloc _⟩
    | true =>
      have H2 := Lib.hid (isLevel_is g _ h2)
      cases h3 : isLev b with
      | false =>
        have e : Hid (ckCol r g b = 1) := by show _ = _; unfold ckCol isCol; rw [h1, h2, h3]; rfl
        have H3 := Lib.hid (isLevel_is b _ h3)
        clear h1 h2 h3
        go_enter Tryz.func18, Tryz.ntmps18
        go_wp2_with (go_at_call 33; (first | ((with_reducible refine (H1.out _).mono ?_); rintro e w' ⟨rfl, rfl⟩) | ((with_reducible refine (H2.out _).mono ?_); rintro e w' ⟨rfl, rfl⟩) | ((with_reducible refine (H3.out _).mono ?_); rintro e w' ⟨rfl, rfl⟩)))
        go_returns
        exact ⟨ret_int e.out.symm, (Gr.refl w).alloc _⟩
      | true =>
        have e : Hid (ckCol r g b = 0) := by show _ = _; unfold ckCol isCol; rw [h1, h2, h3]; rfl
        have H3 := Lib.hid (isLevel_is b _ h3)
        clear h1 h2 h3
        go_enter Tryz.func18, Tryz.ntmps18
        go_wp2_with (go_at_call 33; (first | ((with_reducible refine (H1.out _).mono ?_); rintro e w' ⟨rfl, rfl⟩) | ((with_reducible refine (H2.out _).mono ?_); rintro e w' ⟨rfl, rfl⟩) | ((with_reducible refine (H3.out _).mono ?_); rintro e w' ⟨rfl, rfl⟩)))
        go_returns
        exact ⟨ret_int e.out.symm, (Gr.refl w).alloc _⟩

end Go.Proofs.YtfamnaekelmkpaaGreatDoor
