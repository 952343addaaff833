/- Take, with the reader of levels. -/
import Derived.Test.YtkllhockcnokeaaDoorLnU
import Derived.Test.YtkllhockcnokeaaDoorLvT
namespace Go.Proofs.YtkllhockcnokeaaDoor
open Go.RowKit Go.Lib Go.Sort

set_option maxHeartbeats 1600000 in
/-- Take, with the reader of levels. -/
theorem take_lev (n : Nat) (ws : List (List UInt8)) (x : Bool) (w : World) (h : LineV w n ws x) (hs : Short ws) :
    Calls Tryd.prog 34 #[.pointer (some ⟨n, 0, none⟩), .func (.func 37) #[] #[]] w fun e w' => e = .returned (.int .i64 (lvRead (nxW ws x))) ∧ LineV w' n (nxT ws x) (nxX ws x || !lvOk (nxW ws x)) ∧ w.grownBy w' (some n) := by
  have HN := Lib.hid (next_any n ws x w h)
  have hR := Lib.hid (fun w' => read_any (bs (nxW ws x)) w' (by rw [bs_size]; have := nxW_len (x := x) hs; omega))
  have hl : lrR (bs (nxW ws x)) = .returned (.tuple #[.int .i64 (lvRead (nxW ws x)), .int .i64 (if lvOk (nxW ws x) = true then 0 else 9)]) := by unfold lrR; rw [bs_list]
  rw [hl] at hR
  obtain ⟨f, hf, hk⟩ : ∃ f : Int, f = (if lvOk (nxW ws x) = true then 0 else 9) ∧ (f == 0) = lvOk (nxW ws x) := ⟨_, rfl, by cases lvOk (nxW ws x) <;> rfl⟩
  rw [← hf] at hR
  rw [← hk]
  clear h hs hl hf hk
  generalize lvRead (nxW ws x) = V at *
  generalize bs (nxW ws x) = W at *
  generalize nxT ws x = T at *
  generalize nxX ws x = X at *
  go_enter Tryd.func34, Tryd.ntmps34
  go_wp2_with (first
    | (go_at_call 51; refine HN.out.mono ?_; rintro e w1 ⟨rfl, l1, g1⟩; have L1 := Lib.hid l1; clear l1)
    | (go_at_call 37; refine (hR.out _).mono ?_; rintro e w2 ⟨rfl, m2'⟩; have m2 := m2'.bl; clear m2')
    | (go_at_call 52; refine (must_any n T X (f == 0) _ (L1.out.bl m2)).mono ?_; rintro e w3 ⟨rfl, l3, g3⟩; have L3 := Lib.hid l3; clear l3))
  go_ret
  exact ⟨rfl, L3.out, (g1.trans (bl_grown m2 n)).trans g3⟩
end Go.Proofs.YtkllhockcnokeaaDoor
