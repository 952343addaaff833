/- The words of a line: Rest. -/
import Derived.Test.YtfamnaekelmkpaaGreatDoorTake
import Derived.Test.YtfamnaekelmkpaaGreatDoorGelM
import Derived.Lib.Join
namespace Go.Proofs.YtfamnaekelmkpaaGreatDoor
open Go.RowKit Go.Lib Go.Sort

/-- The words, with single blanks between. -/
def jn (ws : List (List UInt8)) : List UInt8 := Lib.join ws [32]
theorem maps_bs : ∀ ws : List (List UInt8), (ws.map bs).map (fun x => x.data.toList) = ws
  | [] => rfl
  | a :: t => by rw [List.map_cons, List.map_cons, maps_bs t, bs_list]
theorem join_any (n : Nat) (v : Value) (ws : List (List UInt8)) (w : World) (h : WdsV w n v ws) (hl : (jn ws).length ≤ 1000000) :
    Calls Tryz.prog 61 #[v, .string ⟨#[32]⟩] w fun e w' => e = .returned (.string (bs (jn ws))) ∧ Bl w w' := by
  obtain ⟨o, cap, rfl, h1, h2, h3⟩ := h
  cases hw : ws with
  | nil =>
    subst hw
    refine (Tryz.strings_Join_none o cap ⟨#[32]⟩ w).mono ?_
    rintro e w' ⟨rfl, rfl⟩
    exact ⟨rfl, Bl.refl _⟩
  | cons a t =>
    obtain ⟨b, off, rfl, _, hc⟩ := h3 (by rw [hw]; simp)
    rw [← hw]
    have hlt := World.block_lt_of_cell? _ _ (hc 0 (by rw [hw]; simp))
    have hm : (ws.map bs).map (·.data.toList) = ws := maps_bs ws
    have := Tryz.strings_Join b off cap (ws.map bs) ⟨#[32]⟩ w (fun j x hj => by
      have hjl : j < ws.length := by have := (List.getElem?_eq_some_iff.1 hj).1; simpa using this
      have hc' := hc j hjl
      rw [List.getElem?_map, List.getElem?_eq_getElem hjl] at hj
      rw [List.getElem?_eq_getElem hjl] at hc'
      rw [hc']
      exact congrArg (fun z => some (Value.string z)) (by simpa using hj)) hlt (by rw [List.length_map]; omega) (by rw [List.length_map]; exact h1) (by rw [hm]; show (jn ws).length ≤ _; omega)
    rw [hm, List.length_map] at this
    refine this.mono ?_
    rintro e w' ⟨rfl, hb⟩
    exact ⟨rfl, hb⟩
theorem LineV.cleared {w : World} {n : Nat} {ws : List (List UInt8)} {x : Bool} (h : LineV w n ws x) : LineV (w.setCell ⟨n, 0, none⟩ (.slice none 0 0)) n [] x :=
  h.set ⟨none, 0, rfl, by simp, by omega, fun h => absurd h (by simp)⟩
set_option maxRecDepth 100000 in
set_option maxHeartbeats 1600000 in
theorem rest_any (n : Nat) (ws : List (List UInt8)) (w : World) (h : LineV w n ws false) (hl : (jn ws).length ≤ 1000000) :
    Calls Tryz.prog 40 #[.pointer (some ⟨n, 0, none⟩)] w fun e w' => e = .returned (.string (bs (jn ws))) ∧ LineV w' n [] (jn ws).isEmpty ∧ w.grownBy w' (some n) := by
  have HL := Lib.hid h
  obtain ⟨h1, h2, h3, v, h4, h5⟩ := h
  have HJ := Lib.hid (join_any n v ws w h5 hl)
  have he0 : (bs (jn ws)).toList.isEmpty = (jn ws).isEmpty := by rw [Lib.toList_data, bs_list]
  clear h5 hl
  generalize jn ws = J at *
  obtain ⟨S, hS⟩ : ∃ S, S = bs J := ⟨_, rfl⟩
  rw [← hS] at HJ he0 ⊢
  have he := Lib.hid he0
  clear hS he0
  go_enter Tryz.func40, Tryz.ntmps40
  go_wp2_with (go_at_call 61; refine HJ.out.mono ?_; rintro e w1 ⟨rfl, m1⟩; have HL1 := Lib.hid (HL.out.bl m1); obtain ⟨k1, k2, k3, v1, k4, _⟩ := HL.out.bl m1)
  refine (must_any n [] false (!S.toList.isEmpty) _ HL1.out.cleared).mono ?_
  rintro e w2 ⟨rfl, hL2, hg2⟩
  go_wp2
  go_ret
  refine ⟨rfl, ?_, ((bl_grown m1 n).trans (set_grown _ _ _ _)).trans hg2⟩
  rw [← he.out]
  simpa using hL2
set_option maxRecDepth 100000 in
theorem rest_bad (n : Nat) (ws : List (List UInt8)) (w : World) (h : LineV w n ws true) :
    Calls Tryz.prog 40 #[.pointer (some ⟨n, 0, none⟩)] w fun e w' => e = .returned (.string ⟨#[]⟩) ∧ LineV w' n ws true ∧ w.grownBy w' (some n) := by
  have HL := Lib.hid h
  obtain ⟨h1, h2, h3, v, h4, h5⟩ := h
  clear h5
  go_enter Tryz.func40, Tryz.ntmps40
  go_wp2
  go_ret
  exact ⟨rfl, HL.out, World.grownBy.refl _ _⟩

/-- The first two words of a line, and the rest. -/
def lnOk (l : List UInt8) : Bool := match split1 32 l with
  | a :: b :: t => numOk 9 a && (decide (rdX b = 0) && !(jn t).isEmpty)
  | _ => false
def lnGel (l : List UInt8) : Gel := match split1 32 l with
  | a :: b :: t => ⟨val a, bs (jn t), (rdV b).1, (rdV b).2.1, (rdV b).2.2⟩
  | _ => ⟨0, bs [], 0, 0, 0⟩
end Go.Proofs.YtfamnaekelmkpaaGreatDoor
