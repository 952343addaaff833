/- text and inner of the reference. -/
import Derived.Test.YtgpblgalklegkaaDoorTxrM
import Derived.Test.YtgpblgalklegkaaDoorShoA
import Derived.Deep.RegionHeld3
namespace Go.Proofs.YtgpblgalklegkaaDoor
open Go.RowKit Go.Lib Go.Sort

/-- What text of the reference gives. -/
def TextOk (d : Nat) : Prop := ∀ (p : Pk) (sv : Value) (w : World), Good d p → PkV w sv p.args → PowAt w →
    Calls Tryd.prog 30 #[.agg #[.int .i64 p.kind, .int .i64 p.frm, .int .i64 p.to, sv]] w fun e w' => e = .returned (.string (bs (txt d p))) ∧ Bl w w'
set_option maxHeartbeats 800000 in
theorem compound_any (k f t : Int) (o : Option Addr) (n c : Nat) (v : Bool) (h : decide (k = 4 ∨ k = 5) = v) (w : World) :
    Calls Tryd.prog 102 #[.agg #[.int .i64 k, .int .i64 f, .int .i64 t, .slice o n c]] w fun e w' => e = .returned (.bool v) ∧ Bl w w' := by
  subst h
  by_cases h1 : k = 4
  · subst h1
    go_enter Tryd.func102, Tryd.ntmps102
    go_wp2_with fail
    go_returns
    exact ⟨rfl, (Bl.refl w).alloc _⟩
  · have t1 : (k == 4) = false := by simpa using h1
    have e : Hid (decide (k = 4 ∨ k = 5) = (k == 5)) := by
      show _ = _
      by_cases h2 : k = 5
      · subst h2; decide
      · simp [h1, h2]
    clear h1
    go_enter Tryd.func102, Tryd.ntmps102
    go_wp2_with fail
    go_returns
    exact ⟨ret_bool e.out.symm, (Bl.refl w).alloc _⟩

set_option maxRecDepth 100000 in
set_option maxHeartbeats 1600000 in
theorem inner_any (d : Nat) (ih : TextOk d) (p : Pk) (sv : Value) (w : World) (hg : Good d p) (hsv : PkV w sv p.args) (hpw : PowAt w) :
    Calls Tryd.prog 70 #[.agg #[.int .i64 p.kind, .int .i64 p.frm, .int .i64 p.to, sv]] w fun e w' => e = .returned (.string (bs (innT (txt d) p))) ∧ Bl w w' := by
  obtain ⟨o, cap, rfl, hm⟩ := hsv.form
  obtain ⟨W, hW⟩ : ∃ W, W = w.alloc (.cells #[.int .i64 p.kind, .int .i64 p.frm, .int .i64 p.to, .slice o p.args.length cap] 24) := ⟨_, rfl⟩
  have bW : Bl w W := by rw [hW]; exact (Bl.refl w).alloc _
  have KK := Lib.hid (fun w' (m : Bl W w') => show w'.cell? ⟨w.heap.size, 0, none⟩ = some (.int .i64 p.kind) ∧ w'.cell? ⟨w.heap.size, 1, none⟩ = some (.int .i64 p.frm) ∧ w'.cell? ⟨w.heap.size, 2, none⟩ = some (.int .i64 p.to) ∧ w'.cell? ⟨w.heap.size, 3, none⟩ = some (.slice o p.args.length cap) from ⟨m.cell (by rw [hW]; simp), m.cell (by rw [hW]; simp), m.cell (by rw [hW]; simp), m.cell (by rw [hW]; simp)⟩)
  have HT := Lib.hid (fun w' (m : Bl w w') => ih p _ w' hg (hsv.bl m) (hpw.bl m))
  have hlen := txt_le hg
  have hsz : (bs (txt d p)).size ≤ 12800 := by rw [bs_size]; exact hlen
  obtain ⟨T, hT⟩ : ∃ T, txt d p = T := ⟨_, rfl⟩
  have e0 : innT (txt d) p = if p.kind = 4 ∨ p.kind = 5 then paren T else T := by rw [← hT]; rfl
  rw [hT] at HT hsz
  rw [e0]
  obtain ⟨k0, k1, k2, k3⟩ := KK.out _ (Bl.refl _)
  have R1 : ∀ w, (Op.stringOp .add ⟨#[40]⟩ (bs T)).run Tryd.prog w = .ok (.string (⟨#[40]⟩ ++ bs T)) w := fun w => run_string_add_sum w _ _ (by show 1 + _ ≤ _; omega)
  have R2 : ∀ w, (Op.stringOp .add (⟨#[40]⟩ ++ bs T) ⟨#[41]⟩).run Tryd.prog w = .ok (.string (⟨#[40]⟩ ++ bs T ++ ⟨#[41]⟩)) w := fun w => run_string_add_sum w _ _ (by rw [ByteArray.size_append]; show 1 + _ + 1 ≤ _; omega)
  clear hg hsv hpw hlen hT e0 ih
  by_cases hc : p.kind = 4 ∨ p.kind = 5
  · have HC := Lib.hid (fun w' => compound_any p.kind p.frm p.to o p.args.length cap true (by simpa using hc) w')
    have e : Hid (⟨#[40]⟩ ++ bs T ++ ⟨#[41]⟩ = bs (if p.kind = 4 ∨ p.kind = 5 then paren T else T)) := by show _ = _; rw [if_pos hc, paren_bs]
    obtain ⟨X, hX⟩ : ∃ X, bs (if p.kind = 4 ∨ p.kind = 5 then paren T else T) = X := ⟨_, rfl⟩
    rw [hX] at e ⊢
    clear hX hc
    generalize p.kind = k at *
    generalize p.frm = f at *
    generalize p.to = t at *
    go_enter Tryd.func70, Tryd.ntmps70
    go_wp2_with fail
    rw [← hW]
    clear hW
    refine (HC.out _).mono ?_
    rintro e1 w1 ⟨rfl, b1⟩
    clear k0 k1 k2 k3
    obtain ⟨k0, k1, k2, k3⟩ := KK.out _ b1
    go_wp2_with fail
    refine (HT.out _ (bW.trans b1)).mono ?_
    rintro e1 w2 ⟨rfl, b2⟩
    go_wp2_with fail
    go_returns
    exact ⟨by rw [← e.out]; rfl, (bW.trans b1).trans b2⟩
  · have HC := Lib.hid (fun w' => compound_any p.kind p.frm p.to o p.args.length cap false (by simpa using hc) w')
    have e : Hid (bs T = bs (if p.kind = 4 ∨ p.kind = 5 then paren T else T)) := by show _ = _; rw [if_neg hc]
    obtain ⟨X, hX⟩ : ∃ X, bs (if p.kind = 4 ∨ p.kind = 5 then paren T else T) = X := ⟨_, rfl⟩
    rw [hX] at e ⊢
    clear hX hc R1 R2
    generalize p.kind = k at *
    generalize p.frm = f at *
    generalize p.to = t at *
    go_enter Tryd.func70, Tryd.ntmps70
    go_wp2_with fail
    rw [← hW]
    clear hW
    refine (HC.out _).mono ?_
    rintro e1 w1 ⟨rfl, b1⟩
    clear k0 k1 k2 k3
    obtain ⟨k0, k1, k2, k3⟩ := KK.out _ b1
    go_wp2_with fail
    refine (HT.out _ (bW.trans b1)).mono ?_
    rintro e1 w2 ⟨rfl, b2⟩
    go_wp2_with fail
    go_returns
    exact ⟨by rw [← e.out]; rfl, (bW.trans b1).trans b2⟩
end Go.Proofs.YtgpblgalklegkaaDoor
