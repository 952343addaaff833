/- The words of a line: Take at colours, Rest. -/
import Derived.Test.YtfamnaekelmkpaaGreatDoorSpl
import Derived.Test.YtfamnaekelmkpaaGreatDoorHexC
namespace Go.Proofs.YtfamnaekelmkpaaGreatDoor
open Go.RowKit Go.Lib Go.Sort

theorem grown_frozen {w w' : World} {n : Nat} (g : w.grownBy w' (some n)) {b i : Nat} (hb : b ≠ n) (hlt : b < w.heap.size) : w'.frozen? ⟨b, i, none⟩ = w.frozen? ⟨b, i, none⟩ := by
  have h := g.block b hlt (fun e => hb (by cases e; rfl))
  unfold World.frozen?
  rw [h]
theorem grown_new3 {w w' : World} {n : Nat} {x y z : Value} {t : TypeId} (g : (w.alloc (.cells #[x, y, z] t)).grownBy w' (some n)) (hb : w.heap.size ≠ n) :
    w'.cell? ⟨w.heap.size, 0, none⟩ = some x ∧ w'.cell? ⟨w.heap.size, 1, none⟩ = some y ∧ w'.cell? ⟨w.heap.size, 2, none⟩ = some z ∧
    w'.frozen? ⟨w.heap.size, 0, none⟩ = false ∧ w'.frozen? ⟨w.heap.size, 1, none⟩ = false ∧ w'.frozen? ⟨w.heap.size, 2, none⟩ = false ∧ w.heap.size < w'.heap.size := by
  refine ⟨grown_cell g hb (by simp), grown_cell g hb (by simp), grown_cell g hb (by simp), ?_, ?_, ?_, by have := g.size; simp at this; omega⟩
  all_goals exact (grown_frozen g hb (by simp)).trans (by simp)
theorem alloc_grown {w w' : World} {n : Nat} {o : Obj} (g : (w.alloc o).grownBy w' (some n)) : w.grownBy w' (some n) := (bl_grown ((Bl.refl w).alloc o) n).trans g
theorem LineV.int {w : World} {n N i : Nat} {ws : List (List UInt8)} {x : Bool} (h : LineV w n ws x) (hN : N ≠ n) {z : Int} (hc : w.cell? ⟨N, i, none⟩ = some (.int .i64 z)) (u : Value) : LineV (w.setCell ⟨N, i, none⟩ u) n ws x := by
  obtain ⟨h1, h2, h3, v, h4, o, cap, h5, h6, h7, h8⟩ := h
  have e : ∀ j, (w.setCell ⟨N, i, none⟩ u).cell? ⟨n, j, none⟩ = w.cell? ⟨n, j, none⟩ := fun j => World.cell?_setCell_other _ _ _ _ (by intro he; injection he with h1 h2; exact hN h1)
  refine ⟨by rw [e]; exact h1, by rw [World.frozen?_setCell]; exact h2, by rw [World.frozen?_setCell]; exact h3, v, by rw [e]; exact h4, o, cap, h5, h6, h7, fun hp => ?_⟩
  obtain ⟨b, off, g1, g2, g3⟩ := h8 hp
  refine ⟨b, off, g1, g2, fun k hk => ?_⟩
  have hw := g3 k hk
  rw [World.cell?_setCell_other _ _ _ _ ?_]
  · exact hw
  · intro he
    injection he with h1 h2
    subst h1 h2
    rw [hc] at hw; cases hw
theorem grown_set_new {w w' : World} {n N i : Nat} (g : w.grownBy w' (some n)) (hN : w.heap.size ≤ N) (u : Value) : w.grownBy (w'.setCell ⟨N, i, none⟩ u) (some n) :=
  ⟨g.os, g.tape, g.output, by simpa using g.size, fun k hk hne => by rw [Below.heap_setCell _ _ _ _ (show k ≠ (⟨N, i, none⟩ : Addr).block by show k ≠ N; omega)]; exact g.block k hk hne⟩
set_option maxRecDepth 100000 in
set_option maxHeartbeats 1600000 in
/-- Take, however its two calls come out. -/
theorem take_col (n : Nat) (S : ByteArray) (ws' : List (List UInt8)) (x' ok : Bool) (a b c f : Int) (w : World)
    (HN : Calls Tryz.prog 57 #[.pointer (some ⟨n, 0, none⟩)] (w.alloc (.cells #[.int .i64 0, .int .i64 0, .int .i64 0] 31)) fun e w' => e = .returned (.string S) ∧ LineV w' n ws' x' ∧ (w.alloc (.cells #[.int .i64 0, .int .i64 0, .int .i64 0] 31)).grownBy w' (some n))
    (HR : ∀ w', (w.alloc (.cells #[.int .i64 0, .int .i64 0, .int .i64 0] 31)).grownBy w' (some n) → Calls Tryz.prog 39 #[.string S] w' fun e w'' => e = .returned (.tuple #[colV a b c, .int .i64 f]) ∧ Bl w' w'')
    (hn : n < w.heap.size) (hf : ok = (f == 0)) :
    Calls Tryz.prog 38 #[.pointer (some ⟨n, 0, none⟩), .func (.func 39) #[] #[]] w fun e w' => e = .returned (colV a b c) ∧ LineV w' n ws' (x' || !ok) ∧ w.grownBy w' (some n) := by
  have hN := Lib.hid HN
  have hR := Lib.hid HR
  clear HN HR
  simp only [colV] at hR
  have hz : w.heap.size ≠ n := by omega
  go_enter Tryz.func38, Tryz.ntmps38
  go_wp2_with (first
    | (go_at_call 57; refine hN.out.mono ?_; rintro e w1 ⟨rfl, hL, hg⟩; have HL := Lib.hid hL; have HG := Lib.hid hg; clear hL hg)
    | (go_at_call 39; refine (hR.out _ HG.out).mono ?_; rintro e w2 ⟨rfl, m2⟩; have HL2 := Lib.hid (HL.out.bl m2); have HG2 := Lib.hid (HG.out.trans (bl_grown m2 n)); clear m2))
  have HM := Lib.hid (must_any n ws' x' (f == 0) _ (HL2.out.bl ((Bl.refl w2).alloc (.cells #[.int .i64 a, .int .i64 b, .int .i64 c] 31))))
  rw [← hf] at HM ⊢
  have hz2 : w2.heap.size ≠ n := by have := HG2.out.size; simp at this; omega
  refine HM.out.mono ?_
  rintro e w3 ⟨rfl, hL3, hg3⟩
  obtain ⟨k0, k1, k2, _, _, _, hlt2⟩ := grown_new3 hg3 hz2
  have hg4 := (HG2.out.trans (bl_grown ((Bl.refl w2).alloc (.cells #[.int .i64 a, .int .i64 b, .int .i64 c] 31)) n)).trans hg3
  obtain ⟨q0, q1, q2, z0, z1, z2, hlt⟩ := grown_new3 hg4 hz
  have HL3 := Lib.hid hL3
  have HG4 := Lib.hid (alloc_grown hg4)
  clear hL3 hg3 hg4
  go_wp2
  obtain ⟨e0, e1, e2⟩ := st3 (n := w.heap.size) q0 q1 q2 (.int .i64 a) (.int .i64 b) (.int .i64 c) (Bl.refl _)
  have s1 : (w3.setCell ⟨w.heap.size, 0, none⟩ (.int .i64 a)).cell? ⟨w.heap.size, 1, none⟩ = some (.int .i64 0) := by rw [World.cell?_setCell_other _ _ _ _ (by simp)]; exact q1
  have s2 : ((w3.setCell ⟨w.heap.size, 0, none⟩ (.int .i64 a)).setCell ⟨w.heap.size, 1, none⟩ (.int .i64 b)).cell? ⟨w.heap.size, 2, none⟩ = some (.int .i64 0) := by rw [World.cell?_setCell_other _ _ _ _ (by simp), World.cell?_setCell_other _ _ _ _ (by simp)]; exact q2
  refine bodyPost_ret (v := colV a b c) ?_ rfl ⟨rfl, ((HL3.out.int hz q0 _).int hz s1 _).int hz s2 _, grown_set_new (grown_set_new (grown_set_new HG4.out (Nat.le_refl _) _) (Nat.le_refl _) _) (Nat.le_refl _) _⟩
  simp [results, Tryz.results38, go_sem, colV, e0, e1, e2]

theorem rd0 {l : List UInt8} (h : rdX l = 0) : ∃ a b c : Nat, rdC l = some (a, b, c) := by
  unfold rdX at h
  cases hr : rdC l with
  | none => rw [hr] at h; cases h
  | some p => exact ⟨p.1, p.2.1, p.2.2, rfl⟩
theorem take_ok (n : Nat) (a : List UInt8) (t : List (List UInt8)) (w : World) (h : LineV w n (a :: t) false) (hn : n < w.heap.size) (hev : EvAt w) (hE : 4 ≠ n) (hr : rdX a = 0) :
    Calls Tryz.prog 38 #[.pointer (some ⟨n, 0, none⟩), .func (.func 39) #[] #[]] w fun e w' => e = .returned (colV (rdV a).1 (rdV a).2.1 (rdV a).2.2) ∧ LineV w' n t false ∧ w.grownBy w' (some n) := by
  have hb := (Bl.refl w).alloc (.cells #[.int .i64 0, .int .i64 0, .int .i64 0] 31)
  have := take_col n (bs a) t false true (rdV a).1 (rdV a).2.1 (rdV a).2.2 0 w (next_ok n a t _ (h.bl hb)) (fun w' g => by
    have := read_col (bs a) w' (by obtain ⟨ev, h1, h2⟩ := hev.bl hb; exact ⟨ev, grown_cell g hE h1, h2⟩)
    rwa [bs_list, hr] at this) hn rfl
  exact this
theorem take_bad (n : Nat) (ws : List (List UInt8)) (x : Bool) (w : World) (h : LineV w n ws x) (hn : n < w.heap.size) (hev : EvAt w) (hE : 4 ≠ n) (hb : x = true ∨ ws = [] ∨ rdX (ws.headD []) ≠ 0) :
    Calls Tryz.prog 38 #[.pointer (some ⟨n, 0, none⟩), .func (.func 39) #[] #[]] w fun e w' => ∃ (a b c : Int) (ws' : List (List UInt8)), e = .returned (colV a b c) ∧ LineV w' n ws' true ∧ w.grownBy w' (some n) := by
  have hbl := (Bl.refl w).alloc (.cells #[.int .i64 0, .int .i64 0, .int .i64 0] 31)
  have hev' : ∀ w', (w.alloc (.cells #[.int .i64 0, .int .i64 0, .int .i64 0] 31)).grownBy w' (some n) → EvAt w' := fun w' g => by obtain ⟨ev, h1, h2⟩ := hev.bl hbl; exact ⟨ev, grown_cell g hE h1, h2⟩
  by_cases hx : x = true ∨ ws = []
  · have hz : rdX [] = 9 := rfl
    have := take_col n ⟨#[]⟩ ws true false (rdV []).1 (rdV []).2.1 (rdV []).2.2 9 w (next_no n ws x _ (h.bl hbl) hx) (fun w' g => by
      have := read_col ⟨#[]⟩ w' (hev' w' g)
      rwa [show (⟨#[]⟩ : ByteArray).data.toList = [] from rfl, hz] at this) hn rfl
    exact this.mono fun e w' ⟨a, b, c⟩ => ⟨_, _, _, _, a, b, c⟩
  · cases ws with
    | nil => exact absurd (.inr rfl) hx
    | cons a t =>
      obtain rfl : x = false := by cases x with
        | true => exact absurd (.inl rfl) hx
        | false => rfl
      have ha : rdX a ≠ 0 := by rcases hb with h | h | h; cases h; cases h; exact h
      have hf : (rdX a == 0) = false := by simpa using ha
      have := take_col n (bs a) t false false (rdV a).1 (rdV a).2.1 (rdV a).2.2 (rdX a) w (next_ok n a t _ (h.bl hbl)) (fun w' g => by
        have := read_col (bs a) w' (hev' w' g)
        rwa [bs_list] at this) hn hf.symm
      exact this.mono fun e w' ⟨a, b, c⟩ => ⟨_, _, _, _, a, b, c⟩
end Go.Proofs.YtfamnaekelmkpaaGreatDoor
