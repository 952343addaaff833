/- The words of a line that are still to be read: Must, Next, Ended, Rest, Number of the program. -/
import Derived.Test.YtkllhockcnokeaaDoorBs
import Derived.Test.YtkllhockcnokeaaDoorBl
import Derived.Test.YtkllhockcnokeaaDoorRet
import Derived.Test.YtkllhockcnokeaaDoorDecD
import Derived.OwnWalk
namespace Go.Proofs.YtkllhockcnokeaaDoor
open Go.RowKit Go.Lib Go.Sort

/-- Words, as the world holds them. -/
def WdsV (w : World) (n : Nat) (v : Value) (ws : List (List UInt8)) : Prop :=
  ∃ (o : Option Addr) (cap : Nat), v = .slice o ws.length cap ∧ ws.length ≤ cap ∧ cap ≤ 1000000000 ∧ (0 < ws.length → ∃ b off, o = some ⟨b, off, none⟩ ∧ b < n ∧ ∀ i, i < ws.length → w.cell? ⟨b, off + i, none⟩ = some (.string (bs (ws[i]?.getD []))))
/-- A line at the block n, with the words that are left, and whether it is wrong. -/
def LineV (w : World) (n : Nat) (ws : List (List UInt8)) (x : Bool) : Prop :=
  w.cell? ⟨n, 1, none⟩ = some (.bool x) ∧ w.frozen? ⟨n, 0, none⟩ = false ∧ w.frozen? ⟨n, 1, none⟩ = false ∧ ∃ v, w.cell? ⟨n, 0, none⟩ = some v ∧ WdsV w n v ws
theorem grown_cell {w w' : World} {n : Nat} (g : w.grownBy w' (some n)) {b i : Nat} {v : Value} (hb : b ≠ n) (h : w.cell? ⟨b, i, none⟩ = some v) : w'.cell? ⟨b, i, none⟩ = some v := by
  rw [World.cell?_of_block (g.block b (World.block_lt_of_cell? _ _ h) (fun e => hb (by cases e; rfl)))]; exact h
theorem WdsV.grown {w w' : World} {n : Nat} {v : Value} {ws : List (List UInt8)} (h : WdsV w n v ws) (g : w.grownBy w' (some n)) : WdsV w' n v ws := by
  obtain ⟨o, cap, h1, h2, h3, h4⟩ := h
  refine ⟨o, cap, h1, h2, h3, fun hp => ?_⟩
  obtain ⟨b, off, h5, h6, h7⟩ := h4 hp
  exact ⟨b, off, h5, h6, fun i hi => grown_cell g (Nat.ne_of_lt h6) (h7 i hi)⟩
theorem bl_grown {w w' : World} (h : Bl w w') (n : Nat) : w.grownBy w' (some n) := ⟨h.os, h.tape, h.output, h.size, fun k hk _ => h.block k hk⟩
theorem set_grown (w : World) (n i : Nat) (u : Value) : w.grownBy (w.setCell ⟨n, i, none⟩ u) (some n) := ⟨rfl, rfl, rfl, by simp, fun k _ hne => Below.heap_setCell _ _ _ _ (fun e => hne (by rw [e]))⟩
theorem LineV.bl {w w' : World} {n : Nat} {ws : List (List UInt8)} {x : Bool} (h : LineV w n ws x) (g : Bl w w') : LineV w' n ws x := by
  obtain ⟨h1, h2, h3, v, h4, h5⟩ := h
  have hlt := World.block_lt_of_cell? _ _ h1
  exact ⟨g.cell h1, (Bl.frozen g (p := ⟨n, 0, none⟩) hlt).trans h2, (Bl.frozen g (p := ⟨n, 1, none⟩) hlt).trans h3, v, g.cell h4, h5.grown (bl_grown g n)⟩
theorem grown_bl {w0 w w' : World} {n : Nat} (h : Bl w0 w) (g : w.grownBy w' (some n)) (hn : w0.heap.size ≤ n) : Bl w0 w' := h.grown g fun k hk => by cases hk; exact hn

theorem LineV.wrong {w : World} {n : Nat} {ws : List (List UInt8)} {x : Bool} (h : LineV w n ws x) : LineV (w.setCell ⟨n, 1, none⟩ (.bool true)) n ws true := by
  obtain ⟨h1, h2, h3, v, h4, h5⟩ := h
  exact ⟨World.cell?_setCell_same _ _ _ h1, by rw [World.frozen?_setCell]; exact h2, by rw [World.frozen?_setCell]; exact h3, v, by rw [World.cell?_setCell_other _ _ _ _ (by simp)]; exact h4, h5.grown (set_grown _ _ _ _)⟩
set_option maxHeartbeats 400000 in
theorem must_any (n : Nat) (ws : List (List UInt8)) (x ok : Bool) (w : World) (h : LineV w n ws x) :
    Calls Tryd.prog 52 #[.pointer (some ⟨n, 0, none⟩), .bool ok] w fun e w' => e = .returned (.tuple #[]) ∧ LineV w' n ws (x || !ok) ∧ w.grownBy w' (some n) := by
  obtain ⟨h1, h2, h3, v, h4, h5⟩ := h
  have hL : LineV w n ws x := ⟨h1, h2, h3, v, h4, h5⟩
  have HL := Lib.hid hL
  have HW := Lib.hid hL.wrong
  clear hL h5
  cases ok with
  | true =>
    go_enter Tryd.func52, Tryd.ntmps52
    go_wp2
    go_end0
    refine ⟨rfl, ?_, World.grownBy.refl _ _⟩
    rw [show (x || !true) = x by cases x <;> rfl]
    exact HL.out
  | false =>
    go_enter Tryd.func52, Tryd.ntmps52
    go_wp2
    go_end0
    refine ⟨rfl, ?_, set_grown _ _ _ _⟩
    rw [show (x || !false) = true by cases x <;> rfl]
    exact HW.out

theorem WdsV.nil {w : World} {n : Nat} {v : Value} (h : WdsV w n v []) : ∃ o cap, v = .slice o 0 cap := by
  obtain ⟨o, cap, h1, _⟩ := h
  exact ⟨o, cap, h1⟩
/-- The words behind the first one. -/
theorem WdsV.tail {w : World} {n b off cap : Nat} {a : List UInt8} {t : List (List UInt8)} {u : Value} (hb : b < n) (hc : t.length + 1 ≤ cap) (hm : cap ≤ 1000000000)
    (h : ∀ i, i < t.length + 1 → w.cell? ⟨b, off + i, none⟩ = some (.string (bs ((a :: t)[i]?.getD [])))) (hu : u = .slice (some ⟨b, off + 1, none⟩) t.length (cap - 1) ∨ t = [] ∧ ∃ o, u = .slice o 0 (cap - 1)) : WdsV w n u t := by
  rcases hu with rfl | ⟨rfl, o, rfl⟩
  · refine ⟨_, _, rfl, by omega, by omega, fun _ => ⟨b, off + 1, rfl, hb, fun i hi => ?_⟩⟩
    have := h (i + 1) (by omega)
    rw [show off + 1 + i = off + (i + 1) by omega]
    rw [List.getElem?_cons_succ] at this
    exact this
  · exact ⟨_, _, rfl, by simp, by omega, fun h => absurd h (by simp)⟩
theorem LineV.set {w : World} {n : Nat} {ws t : List (List UInt8)} {x : Bool} {u : Value} (h : LineV w n ws x) (hu : WdsV w n u t) : LineV (w.setCell ⟨n, 0, none⟩ u) n t x := by
  obtain ⟨h1, h2, h3, v, h4, h5⟩ := h
  exact ⟨by rw [World.cell?_setCell_other _ _ _ _ (by simp)]; exact h1, by rw [World.frozen?_setCell]; exact h2, by rw [World.frozen?_setCell]; exact h3, u, World.cell?_setCell_same _ _ _ h4, hu.grown (set_grown _ _ _ _)⟩
set_option maxRecDepth 100000 in
set_option maxHeartbeats 1600000 in
theorem next_ok (n : Nat) (a : List UInt8) (t : List (List UInt8)) (w : World) (h : LineV w n (a :: t) false) :
    Calls Tryd.prog 51 #[.pointer (some ⟨n, 0, none⟩)] w fun e w' => e = .returned (.string (bs a)) ∧ LineV w' n t false ∧ w.grownBy w' (some n) := by
  have HM := Lib.hid (must_any n (a :: t) false true w h)
  obtain ⟨h1, h2, h3, v, h4, o, cap, rfl, h5, h6, h7⟩ := h
  obtain ⟨b, off, rfl, hb, hc⟩ := h7 (by simp)
  rw [List.length_cons] at h4 h5 hc
  have k1 : (0 : Int) < ((t.length + 1 : Nat) : Int) := by omega
  have H7 := Lib.hid hc
  clear h1 h2 h3 hc h7
  go_enter Tryd.func51, Tryd.ntmps51
  go_wp2_with (go_at_call 52; refine HM.out.mono ?_; rintro e w1 ⟨rfl, hL, hg⟩; have hL : LineV w1 n (a :: t) false := hL; have HL := Lib.hid hL; obtain ⟨h1, h2, h3, v', g4, o', cap', rfl, g5, g6, g7⟩ := hL; obtain ⟨b', off', rfl, gb, gc⟩ := g7 (by simp); rw [List.length_cons] at g4 g5 gc; have d0 : w1.cell? ⟨b', off', none⟩ = some (.string (bs a)) := gc 0 (by omega); have G7 := Lib.hid gc; clear g7 gc h4)
  all_goals first
    | (go_ret; exact ⟨rfl, HL.out.set (WdsV.tail gb g5 g6 G7.out (.inl rfl)), hg.trans (set_grown _ _ _ _)⟩)
    | (obtain rfl : t = [] := (List.eq_nil_of_length_eq_zero (by omega)); go_ret; exact ⟨rfl, HL.out.set (WdsV.tail gb g5 g6 G7.out (.inr ⟨rfl, some ⟨b', off', none⟩, by rw [show cap' - 1 = 0 by omega]; rfl⟩)), hg.trans (set_grown _ _ _ _)⟩)

set_option maxRecDepth 100000 in
set_option maxHeartbeats 1600000 in
/-- No word is read: the line is wrong, or no word is left. -/
theorem next_no (n : Nat) (ws : List (List UInt8)) (x : Bool) (w : World) (h : LineV w n ws x) (hx : x = true ∨ ws = []) :
    Calls Tryd.prog 51 #[.pointer (some ⟨n, 0, none⟩)] w fun e w' => e = .returned (.string ⟨#[]⟩) ∧ LineV w' n ws true ∧ w.grownBy w' (some n) := by
  have HM := Lib.hid (fun ok => must_any n ws x ok w h)
  obtain ⟨h1, h2, h3, v, h4, o, cap, rfl, h5, h6, h7⟩ := h
  have hd : (x || !(decide ((0 : Int) < (ws.length : Int)))) = true := by
    rcases hx with rfl | rfl
    · rfl
    · simp
  clear h1 h2 h3 h7
  obtain ⟨d, hde⟩ : ∃ d, d = decide ((0 : Int) < (ws.length : Int)) := ⟨_, rfl⟩
  have HMM := Lib.hid (HM.out d)
  rw [← hde] at hd
  rw [hd] at HMM
  clear HM hd hx
  cases d with
  | true =>
    have k1 : (0 : Int) < (ws.length : Int) := by simpa using hde.symm
    have k2 : 0 < ws.length := by omega
    have k3 : decide ((0 : Int) < (ws.length : Int)) = true := hde.symm
    have k4 : ws ≠ [] := fun h => by rw [h] at k2; exact absurd k2 (by decide)
    clear hde
    go_enter Tryd.func51, Tryd.ntmps51
    go_wp2_with (go_at_call 52; go_loud (refine HMM.out.mono ?_); rintro e w1 ⟨rfl, hL, hg⟩; have HL := Lib.hid hL; have g1 := hL.1; clear hL)
    go_ret
    exact ⟨rfl, HL.out, hg⟩
  | false =>
    have k1 : ¬ (0 : Int) < (ws.length : Int) := by simpa using hde.symm
    obtain rfl : ws = [] := List.eq_nil_of_length_eq_zero (by omega)
    clear hde k1
    go_enter Tryd.func51, Tryd.ntmps51
    go_wp2_with (go_at_call 52; refine HMM.out.mono ?_; rintro e w1 ⟨rfl, hL, hg⟩; have HL := Lib.hid hL; have g1 := hL.1; clear hL)
    go_ret
    exact ⟨rfl, HL.out, hg⟩
set_option maxRecDepth 100000 in
set_option maxHeartbeats 1600000 in
theorem ended_any (n : Nat) (ws : List (List UInt8)) (x : Bool) (w : World) (h : LineV w n ws x) :
    Calls Tryd.prog 44 #[.pointer (some ⟨n, 0, none⟩)] w fun e w' => e = .returned (.bool (!x && ws.isEmpty)) ∧ w' = w := by
  obtain ⟨h1, h2, h3, v, h4, o, cap, rfl, h5, h6, h7⟩ := h
  clear h7
  cases x with
  | true =>
    go_enter Tryd.func44, Tryd.ntmps44
    go_wp2
    go_ret
    exact ⟨rfl, rfl⟩
  | false =>
    cases hw : ws with
    | nil =>
      subst hw
      go_enter Tryd.func44, Tryd.ntmps44
      go_wp2
      go_ret
      exact ⟨rfl, rfl⟩
    | cons a t =>
      have k1 : ((ws.length : Int) == 0) = false := by rw [hw]; simp; omega
      clear hw
      go_enter Tryd.func44, Tryd.ntmps44
      go_wp2
      go_ret
      exact ⟨rfl, rfl⟩
end Go.Proofs.YtkllhockcnokeaaDoor
