/- Mix, of the program and of the reference. -/
import Derived.Test.YtdienaigmkaheaaSumF
import Derived.Test.YtdienaigmkaheaaPart
namespace Go.Proofs.Ytdienaigmkaheaa
open Go.RowKit

def mxB (a b p q : Int) : Bool := isLev a && isLev b && isPt p q
/-- What Mix gives. -/
def mxV (a b p q : Int) : Int := if mxB a b p q = true then btw p q a b else 0
def mxX (a b p q : Int) : Int := if mxB a b p q = true then 0 else 1
theorem mx_no {a b p q : Int} (h : mxB a b p q = false) : mxV a b p q = 0 ∧ mxX a b p q = 1 := by unfold mxV mxX; rw [h]; exact ⟨rfl, rfl⟩
theorem mx_yes {a b p q : Int} (h : mxB a b p q = true) : mxV a b p q = btw p q a b ∧ mxX a b p q = 0 := by unfold mxV mxX; rw [h]; exact ⟨rfl, rfl⟩

set_option maxHeartbeats 800000 in
theorem mix_prog (a b p q : Int) (w : World) :
    Calls Try.prog 8 #[.int .i64 a, .int .i64 b, .int .i64 p, .int .i64 q] w fun e w' => e = .returned (.tuple #[.int .i64 (mxV a b p q), .int .i64 (mxX a b p q)]) ∧ Gr w w' := by
  have h2 := fun n w hn => are2n a b n w hn
  have hP := fun w => isPart_any p q w
  cases hab : (isLev a && isLev b) with
  | false =>
    have e := Lib.hid (mx_no (a := a) (b := b) (p := p) (q := q) (by unfold mxB; rw [hab]; rfl))
    rw [hab] at h2
    have H2 := Lib.hid h2
    clear h2 hab hP
    go_enter Try.func8, Try.ntmps8
    go_wp2_with fail
    refine (H2.out _ _ (by simp)).mono ?_
    rintro e' w1 ⟨rfl, rfl⟩
    go_wp2_with fail
    go_returns
    exact ⟨by rw [e.out.1, e.out.2]; rfl, (Gr.refl w).alloc _⟩
  | true =>
    rw [hab] at h2
    have H2 := Lib.hid h2
    clear h2
    cases hp : isPt p q with
    | false =>
      have e := Lib.hid (mx_no (a := a) (b := b) (p := p) (q := q) (by unfold mxB; rw [hab, hp]; rfl))
      rw [hp] at hP
      have HP := Lib.hid hP
      clear hab hP hp
      go_enter Try.func8, Try.ntmps8
      go_wp2_with fail
      refine (H2.out _ _ (by simp)).mono ?_
      rintro e' w1 ⟨rfl, rfl⟩
      go_wp2_with fail
      refine (HP.out _).mono ?_
      rintro e' w1 ⟨rfl, rfl⟩
      go_wp2_with fail
      go_returns
      exact ⟨by rw [e.out.1, e.out.2]; rfl, (Gr.refl w).alloc _⟩
    | true =>
      have e := Lib.hid (mx_yes (a := a) (b := b) (p := p) (q := q) (by unfold mxB; rw [hab, hp]; rfl))
      obtain ⟨q1, q2, p0, p1⟩ := isPt_iff.1 hp
      have hab' : isLev a = true ∧ isLev b = true := by simpa using hab
      obtain ⟨a0, a1⟩ := isLev_iff.1 hab'.1
      obtain ⟨b0, b1⟩ := isLev_iff.1 hab'.2
      rw [hp] at hP
      have HP := Lib.hid hP
      clear hab hP hp hab'
      go_enter Try.func8, Try.ntmps8
      go_wp2_with fail
      refine (H2.out _ _ (by simp)).mono ?_
      rintro e' w1 ⟨rfl, rfl⟩
      go_wp2_with fail
      refine (HP.out _).mono ?_
      rintro e' w1 ⟨rfl, rfl⟩
      go_wp2_with fail
      refine (share_any p q _ p0 (by omega) (by omega) (by omega)).mono ?_
      rintro e' w2 ⟨nh, nl, dh, dl, rfl, HH, g1⟩
      have HH := Lib.hid HH
      go_wp2_with fail
      refine (between_any nh nl dh dl p q a b _ HH.out.1 HH.out.2 ⟨p0, p1, by omega, by omega⟩ a0 a1 b0 b1).mono ?_
      rintro e' w3 ⟨rfl, g2⟩
      go_wp2_with fail
      go_returns
      exact ⟨by rw [e.out.1, e.out.2]; rfl, (((Gr.refl w).alloc _).trans g1).trans g2⟩

set_option maxHeartbeats 800000 in
theorem mix_ref2 (a b p q : Int) (w : World) :
    Calls Try.prog 9 #[.int .i64 a, .int .i64 b, .int .i64 p, .int .i64 q] w fun e w' => e = .returned (.tuple #[.int .i64 (mxV a b p q), .int .i64 (mxX a b p q)]) ∧ Bl w w' := by
  have hA := fun w => isLevel_ref a w
  have hB := fun w => isLevel_ref b w
  have hQ := fun w => within_any q 1 36000000 w
  have hP := fun w => within_any p 0 q w
  cases ha : isLev a with
  | false =>
    have e := Lib.hid (mx_no (a := a) (b := b) (p := p) (q := q) (by unfold mxB; rw [ha]; rfl))
    rw [ha] at hA
    have HA := Lib.hid hA
    clear hA hB hQ hP ha
    go_enter Try.func9, Try.ntmps9
    go_wp2_with fail
    refine (HA.out _).mono ?_
    rintro e' w1 ⟨rfl, rfl⟩
    go_wp2_with fail
    go_returns
    exact ⟨by rw [e.out.1, e.out.2]; rfl, Bl.refl _⟩
  | true =>
  rw [ha] at hA
  have HA := Lib.hid hA
  clear hA
  cases hb : isLev b with
  | false =>
    have e := Lib.hid (mx_no (a := a) (b := b) (p := p) (q := q) (by unfold mxB; rw [ha, hb]; rfl))
    rw [hb] at hB
    have HB := Lib.hid hB
    clear hB hQ hP ha hb
    go_enter Try.func9, Try.ntmps9
    go_wp2_with fail
    refine (HA.out _).mono ?_
    rintro e' w1 ⟨rfl, rfl⟩
    go_wp2_with fail
    refine (HB.out _).mono ?_
    rintro e' w1 ⟨rfl, rfl⟩
    go_wp2_with fail
    go_returns
    exact ⟨by rw [e.out.1, e.out.2]; rfl, Bl.refl _⟩
  | true =>
  rw [hb] at hB
  have HB := Lib.hid hB
  clear hB
  cases hq : (decide (1 ≤ q) && decide (q ≤ 36000000)) with
  | false =>
    have e := Lib.hid (mx_no (a := a) (b := b) (p := p) (q := q) (by unfold mxB isPt; rw [ha, hb, hq]; rfl))
    rw [hq] at hQ
    have HQ := Lib.hid hQ
    clear hQ hP ha hb hq
    go_enter Try.func9, Try.ntmps9
    go_wp2_with fail
    refine (HA.out _).mono ?_
    rintro e' w1 ⟨rfl, rfl⟩
    go_wp2_with fail
    refine (HB.out _).mono ?_
    rintro e' w1 ⟨rfl, rfl⟩
    go_wp2_with fail
    refine (HQ.out _).mono ?_
    rintro e' w1 ⟨rfl, rfl⟩
    go_wp2_with fail
    go_returns
    exact ⟨by rw [e.out.1, e.out.2]; rfl, Bl.refl _⟩
  | true =>
  rw [hq] at hQ
  have HQ := Lib.hid hQ
  clear hQ
  cases hp : (decide (0 ≤ p) && decide (p ≤ q)) with
  | false =>
    have e := Lib.hid (mx_no (a := a) (b := b) (p := p) (q := q) (by unfold mxB isPt; rw [ha, hb, Bool.and_assoc (decide (1 ≤ q) && decide (q ≤ 36000000)), hq, hp]; rfl))
    rw [hp] at hP
    have HP := Lib.hid hP
    clear hP ha hb hq hp
    go_enter Try.func9, Try.ntmps9
    go_wp2_with fail
    refine (HA.out _).mono ?_
    rintro e' w1 ⟨rfl, rfl⟩
    go_wp2_with fail
    refine (HB.out _).mono ?_
    rintro e' w1 ⟨rfl, rfl⟩
    go_wp2_with fail
    refine (HQ.out _).mono ?_
    rintro e' w1 ⟨rfl, rfl⟩
    go_wp2_with fail
    refine (HP.out _).mono ?_
    rintro e' w1 ⟨rfl, rfl⟩
    go_wp2_with fail
    go_returns
    exact ⟨by rw [e.out.1, e.out.2]; rfl, Bl.refl _⟩
  | true =>
    have e := mx_yes (a := a) (b := b) (p := p) (q := q) (by unfold mxB isPt; rw [ha, hb, Bool.and_assoc (decide (1 ≤ q) && decide (q ≤ 36000000)), hq, hp]; rfl)
    have hq' : 1 ≤ q ∧ q ≤ 36000000 := by simpa using hq
    have hp' : 0 ≤ p ∧ p ≤ q := by simpa using hp
    obtain ⟨a0, a1⟩ := isLev_iff.1 ha
    obtain ⟨b0, b1⟩ := isLev_iff.1 hb
    rw [← mix_btw (p := p) (q := q) (N := p) (D := q) (by omega) (by omega) rfl] at e
    have e := Lib.hid e
    rw [hp] at hP
    have HP := Lib.hid hP
    clear hP ha hb hq hp
    go_enter Try.func9, Try.ntmps9
    go_wp2_with fail
    refine (HA.out _).mono ?_
    rintro e' w1 ⟨rfl, rfl⟩
    go_wp2_with fail
    refine (HB.out _).mono ?_
    rintro e' w1 ⟨rfl, rfl⟩
    go_wp2_with fail
    refine (HQ.out _).mono ?_
    rintro e' w1 ⟨rfl, rfl⟩
    go_wp2_with fail
    refine (HP.out _).mono ?_
    rintro e' w1 ⟨rfl, rfl⟩
    go_wp2_with fail
    refine (part_any p q _ hp'.1 (by omega) (by omega) (by omega)).mono ?_
    rintro e' w1 ⟨v1, rfl, h1, g1⟩
    have H1 := Lib.hid h1
    clear h1
    go_wp2_with fail
    refine (mix_ref a b v1 p q _ H1.out a0 a1 b0 b1 hp'.1 hp'.2 (lt5 (by omega))).mono ?_
    rintro e' w2 ⟨rfl, g2⟩
    go_wp2_with fail
    go_returns
    exact ⟨by rw [e.out.1, e.out.2]; rfl, g1.trans g2⟩
end Go.Proofs.Ytdienaigmkaheaa
