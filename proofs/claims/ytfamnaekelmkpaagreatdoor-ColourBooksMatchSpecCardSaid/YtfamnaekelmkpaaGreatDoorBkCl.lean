/- The function that ReadBook gives to ReadLines: a line's gel joins the book. -/
import Derived.Test.YtfamnaekelmkpaaGreatDoorGelR
import Derived.Test.YtfamnaekelmkpaaGreatDoorGRow
namespace Go.Proofs.YtfamnaekelmkpaaGreatDoor
open Go.RowKit Go.Lib Go.Sort

/-- The box with the book that has been read, and what lies ahead of it. -/
def BoxV (w : World) (nb : Nat) (L : List Gel) : Prop := w.frozen? ⟨nb, 0, none⟩ = false ∧ ∃ v, w.cell? ⟨nb, 0, none⟩ = some v ∧ GRow (nb + 1) w v L
theorem BoxV.bl {w w' : World} {nb : Nat} {L : List Gel} (h : BoxV w nb L) (g : Bl w w') : BoxV w' nb L := by
  obtain ⟨h1, v, h2, h3⟩ := h
  exact ⟨(Bl.frozen g (p := ⟨nb, 0, none⟩) (World.block_lt_of_cell? _ _ h2)).trans h1, v, g.cell h2, h3.bl g⟩
theorem BoxV.lt {w : World} {nb : Nat} {L : List Gel} (h : BoxV w nb L) : nb < w.heap.size := by obtain ⟨_, v, h2, _⟩ := h; exact World.block_lt_of_cell? _ _ h2
theorem BoxV.new (w : World) : BoxV (w.alloc (.cells #[.slice none 0 0] 22)) w.heap.size [] := ⟨by simp, _, by simp, ⟨rfl, .inl ⟨rfl, rfl⟩⟩⟩
theorem bl_of_below {w0 w w' : World} {B : Nat} (h : Bl w0 w) (g : Below B w w') (hB : w0.heap.size ≤ B) : Bl w0 w' := Below.trans h (Below.mono g hB)
theorem GRow.form {base : Nat} {w : World} {v : Value} {L : List Gel} (h : GRow base w v L) : ∃ ao ln cp, v = .slice ao ln cp := by
  rcases h.2 with ⟨rfl, _⟩ | ⟨g, cap, cur, rfl, _⟩
  · exact ⟨_, _, _, rfl⟩
  · exact ⟨_, _, _, rfl⟩
/-- The box lies still while its row grows. -/
theorem box_still {w w3 : World} {nb : Nat} {v u : Value} {L : List Gel} (hrow : GRow (nb + 1) w v L) (hc : w.cell? ⟨nb, 0, none⟩ = some u) (hz : w.frozen? ⟨nb, 0, none⟩ = false) (hg : w.grownBy w3 v.ownBlock) :
    w3.cell? ⟨nb, 0, none⟩ = some u ∧ w3.frozen? ⟨nb, 0, none⟩ = false := by
  have hb := hg.block nb (World.block_lt_of_cell? _ _ hc) (fun e => by have := (World.ownsRow.lt hrow nb e.symm).1; omega)
  refine ⟨by rw [World.cell?_of_block hb]; exact hc, ?_⟩
  have := World.frozen?_of_block (w := w) (w' := w3) (a := ⟨nb, 0, none⟩) hb
  rw [this]; exact hz
theorem below_grown {w w3 : World} {nb : Nat} {v : Value} {L : List Gel} (hrow : GRow (nb + 1) w v L) (hlt : nb < w.heap.size) (hg : w.grownBy w3 v.ownBlock) : Below nb w w3 :=
  (Below.refl nb w).grown hg (by omega) (fun k hk => by have := (World.ownsRow.lt hrow k hk).1; omega)
set_option maxRecDepth 100000 in
set_option maxHeartbeats 3200000 in
/-- However the line reads: it joins the book. -/
theorem closure_any (nb : Nat) (L : List Gel) (e0 : Gel) (ok : Bool) (s : ByteArray) (w : World) (hb : BoxV w nb L) (hL : L.length ≤ 1000000)
    (HR : ∀ w', Bl w w' → Calls Tryz.prog 24 #[.string s] w' fun x w'' => ∃ e, (ok = true → e = e0) ∧ x = .returned (.tuple #[gelV e, .bool ok]) ∧ Bl w' w'') :
    Calls Tryz.prog 23 #[.string s, .pointer (some ⟨nb, 0, none⟩)] w fun x w' => x = .returned (.bool ok) ∧ (∃ e, (ok = true → e = e0) ∧ BoxV w' nb (L ++ [e])) ∧ Below nb w w' := by
  have hR := Lib.hid HR
  have hB := Lib.hid hb
  clear HR hb
  simp only [gelV] at hR
  go_enter Tryz.func23, Tryz.ntmps23
  go_wp2_with (first
    | (go_at_call 24; refine (hR.out _ (Bl.refl _)).mono ?_; rintro x w1 ⟨e, he, rfl, m1⟩; have HE := Lib.hid he; clear he; obtain ⟨z1, v, c1, hrow⟩ := hB.out.bl m1; have hz : nb < w1.heap.size := (World.block_lt_of_cell? _ _ c1); have HRow := Lib.hid (hrow.bl ((Bl.refl w1).alloc (.cells #[.int .i64 e.n, .string e.name, .int .i64 e.r, .int .i64 e.g, .int .i64 e.b] 33))); clear hrow)
    | (at_builtin; refine app_gel rfl _ _ rfl (nb + 1) _ v L e HRow.out rfl (by rw [World.size_alloc]; rfl) (by omega) (by rw [World.size_alloc]; omega) ?_; intro v' w3 hrow3 hg3; obtain ⟨ao, ln, cp, rfl⟩ := hrow3.form; have HR3 := Lib.hid hrow3; obtain ⟨d0, dz⟩ := box_still HRow.out (((Bl.refl w1).alloc _).cell c1) ((Bl.frozen ((Bl.refl w1).alloc _) (p := ⟨nb, 0, none⟩) hz).trans z1) hg3; have HG3 := Lib.hid (below_grown HRow.out (by rw [World.size_alloc]; omega) hg3); clear hrow3 hg3))
  go_ret
  refine ⟨rfl, ⟨e, HE.out, by rw [World.frozen?_setCell]; exact dz, _, World.cell?_setCell_same _ _ _ d0, HR3.out.set (Nat.lt_succ_self nb) _⟩, ?_⟩
  exact ((Below.trans (Below.mono ((m1.alloc _)) (Nat.le_of_lt hB.out.lt)) HG3.out).setCell (p := ⟨nb, 0, none⟩) (Nat.le_refl _) _)
end Go.Proofs.YtfamnaekelmkpaaGreatDoor
