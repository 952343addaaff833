/- ReadBook of the program, where all lines are right. -/
import Derived.Test.YtfamnaekelmkpaaGreatDoorRdL
import Derived.Test.YtfamnaekelmkpaaGreatDoorBkC
namespace Go.Proofs.YtfamnaekelmkpaaGreatDoor
open Go.RowKit Go.Lib Go.Sort

set_option maxRecDepth 100000 in
set_option maxHeartbeats 1600000 in
theorem readBook_ok (s : ByteArray) (L : List Gel) (w : World) (hs : s.size ≤ 60000) (hr : rdl lnOk 1 (split1 10 s.data.toList) = none) (hL : (split1 10 s.data.toList).dropLast.map lnGel = L) (hck : ckBook L = 0) (hok : GelsOk L)
    (HG : ∀ line : List UInt8, line.length ≤ 60000 → line ∈ (split1 10 s.data.toList).dropLast → ∀ w', Bl w w' → Calls Tryz.prog 24 #[.string (bs line)] w' fun x w'' => ∃ e, (lnOk line = true → e = lnGel line) ∧ x = .returned (.tuple #[gelV e, .bool (lnOk line)]) ∧ Bl w' w'') :
    Calls Tryz.prog 8 #[.string s] w fun e w' => ∃ v, e = .returned (.tuple #[v, .int .i64 0, .int .i64 0]) ∧ GelVal w' v L ∧ Bl w w' := by
  have HRL := Lib.hid (readLines_any s w.heap.size (w.alloc (.cells #[.slice none 0 0] 22)) hs (BoxV.new w) (fun line hl hm w' hb => HG line hl hm w' (bl_of_below ((Bl.refl w).alloc _) hb (Nat.le_refl _))))
  have HX : Hid (∀ e w', RdPost s.data.toList w.heap.size (w.alloc (.cells #[.slice none 0 0] 22)) e w' → e = .returned (.tuple #[.int .i64 0, .int .i64 0]) ∧ BoxV w' w.heap.size L ∧ Bl w w') := fun e w' h => by
    obtain ⟨hb, h | ⟨n, hn, _⟩⟩ := h
    · obtain ⟨_, he, hbx⟩ := h
      rw [hL] at hbx
      exact ⟨he, hbx, bl_of_below ((Bl.refl w).alloc _) hb (Nat.le_refl _)⟩
    · rw [hr] at hn; cases hn
  have HCK := Lib.hid (fun v w' (h : GelVal w' v L) => checkBook_any v L w' h hok)
  rw [hck] at HCK
  clear HG hr hL hck hok
  go_enter Tryz.func8, Tryz.ntmps8
  go_wp2_with (first
    | (go_at_call 22; refine HRL.out.mono ?_; intro e w1 hp; obtain ⟨rfl, hbx, hb1⟩ := HX.out e w1 hp; clear hp; have HBX := Lib.hid hbx; obtain ⟨_, v, c1, hrow⟩ := hbx; have HV := Lib.hid hrow.val; clear hrow)
    | (go_at_call 6; refine (HCK.out _ _ HV.out).mono ?_; rintro e w2 ⟨rfl, m2⟩; have d1 := m2.cell c1))
  go_returns
  exact ⟨_, rfl, HV.out.bl m2, hb1.trans m2⟩
end Go.Proofs.YtfamnaekelmkpaaGreatDoor
