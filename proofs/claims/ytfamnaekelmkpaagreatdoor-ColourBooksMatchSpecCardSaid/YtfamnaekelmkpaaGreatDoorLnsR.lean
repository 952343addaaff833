/- Lines of the reference: the lines of a text, and whether the last one is ended. -/
import Derived.Test.YtfamnaekelmkpaaGreatDoorSpl
import Derived.Test.YtfamnaekelmkpaaGreatDoorRdL
import Derived.Test.YtfamnaekelmkpaaGreatDoorDecD
namespace Go.Proofs.YtfamnaekelmkpaaGreatDoor
open Go.RowKit Go.Lib Go.Sort

/-- Is the last line ended? -/
def endB (ws : List (List UInt8)) : Bool := (ws.getLast?.getD []).isEmpty
def lnsOf (ws : List (List UInt8)) : List (List UInt8) := if endB ws = true then ws.dropLast else ws
theorem lns_len (ws : List (List UInt8)) : (lnsOf ws).length ≤ ws.length := by
  unfold lnsOf
  split
  · rw [List.length_dropLast]; omega
  · exact Nat.le_refl _
theorem lns_get (ws : List (List UInt8)) (k : Nat) (h : k < (lnsOf ws).length) : (lnsOf ws)[k] = ws[k]'(Nat.lt_of_lt_of_le h (lns_len ws)) := by
  have h' := h
  unfold lnsOf at h ⊢
  split
  · rw [List.getElem_dropLast]
  · rfl
theorem rdl_step (ok : List UInt8 → Bool) (m : Nat) (ws : List (List UInt8)) (k : Nat) (h : k + 1 < ws.length) :
    rdl ok m (ws.drop k) = if ok ws[k] = true then rdl ok (m + 1) (ws.drop (k + 1)) else some m := by
  rw [List.drop_eq_getElem_cons (show k < ws.length by omega)]
  rw [List.drop_eq_getElem_cons h]
  rfl
theorem rdl_last (ok : List UInt8 → Bool) (m : Nat) (ws : List (List UInt8)) (k : Nat) (h : k + 1 = ws.length) : rdl ok m (ws.drop k) = if endB ws = true then none else some m := by
  have e : ws.drop (k + 1) = [] := List.drop_eq_nil_of_le (by omega)
  rw [List.drop_eq_getElem_cons (show k < ws.length by omega), e]
  have e2 : ws.getLast? = some ws[k] := by
    rw [List.getLast?_eq_getElem?, List.getElem?_eq_getElem (show ws.length - 1 < ws.length by omega)]
    congr 1
    simp only [show ws.length - 1 = k by omega]
  unfold endB
  rw [e2]
  show (if ws[k] = [] then none else some m) = _
  rw [Option.getD_some]
  cases hw : ws[k] with
  | nil => rfl
  | cons a t => rfl
theorem split_raw10 (s : ByteArray) (w : World) (hs : s.size ≤ 1000000) (hm : MxAt w) :
    Calls Tryz.prog 42 #[.string s, .string ⟨#[10]⟩] w fun e w' => ∃ W, e = .returned (.slice (some ⟨w.heap.size, 0, none⟩) (split1 10 s.data.toList).length (split1 10 s.data.toList).length) ∧
      (∀ i, i < (split1 10 s.data.toList).length → w'.cell? ⟨w.heap.size, 0 + i, none⟩ = some (.string (bs ((split1 10 s.data.toList)[i]?.getD [])))) ∧ (split1 10 s.data.toList).length ≤ 1000001 ∧ w' = w.alloc W := by
  obtain ⟨m, hm⟩ := hm
  have e1 : Lib.splitK [10] 0 (Lib.countB s ⟨#[10]⟩) s.data.toList = split1 10 s.data.toList := split_one 10 s.data.toList
  have hd0 := Lib.splitB_data ⟨#[10]⟩ 0 (Lib.countB s ⟨#[10]⟩) s
  have hd : (Lib.splitB ⟨#[10]⟩ 0 (Lib.countB s ⟨#[10]⟩) s).map (·.data.toList) = split1 10 s.data.toList := hd0.trans e1
  have hl := Lib.splitB_all ⟨#[10]⟩ (by decide) 0 (Lib.countB s ⟨#[10]⟩) s rfl
  have hlen : (split1 10 s.data.toList).length = Lib.countB s ⟨#[10]⟩ + 1 := by rw [← hd, List.length_map, hl]
  refine (Tryz.strings_Split s ⟨#[10]⟩ m w (by omega) hm (by decide)).mono ?_
  rintro e w' ⟨rfl, rfl⟩
  refine ⟨_, by rw [hlen], fun i hi => ?_, ?_, rfl⟩
  · have hi2 : i < (Lib.splitB ⟨#[10]⟩ 0 (Lib.countB s ⟨#[10]⟩) s).length := by rw [hl]; omega
    have e2 : (split1 10 s.data.toList)[i]?.getD [] = ((Lib.splitB ⟨#[10]⟩ 0 (Lib.countB s ⟨#[10]⟩) s)[i]'hi2).data.toList := by
      rw [← hd, List.getElem?_map, List.getElem?_eq_getElem hi2]; rfl
    rw [e2, bs_of]
    have := heap_alloc_new w (.cells ((Lib.splitB ⟨#[10]⟩ 0 (Lib.countB s ⟨#[10]⟩) s).map Value.string).toArray 9)
    rw [cell_of_row _ w.heap.size (0 + i) _ _ (0, 0) this]
    simp [hi2]
  · have := split1_len 10 s.data.toList
    rw [← Lib.size_eq] at this
    omega
set_option maxRecDepth 100000 in
set_option maxHeartbeats 1600000 in
theorem linesR_any (s : ByteArray) (w : World) (hs : s.size ≤ 1000000) (hm : MxAt w) :
    Calls Tryz.prog 25 #[.string s] w fun e w' => ∃ n cap, e = .returned (.tuple #[.slice (some ⟨n, 0, none⟩) (lnsOf (split1 10 s.data.toList)).length cap, .bool (endB (split1 10 s.data.toList))]) ∧
      (∀ i, i < (lnsOf (split1 10 s.data.toList)).length → w'.cell? ⟨n, i, none⟩ = some (.string (bs ((lnsOf (split1 10 s.data.toList))[i]?.getD [])))) ∧ (lnsOf (split1 10 s.data.toList)).length ≤ 1000001 ∧ Bl w w' := by
  have H := Lib.hid (split_raw10 s w hs hm)
  obtain ⟨x0, t0, h0⟩ := split1_ne 10 s.data.toList
  obtain ⟨ws, hws⟩ : ∃ ws, ws = split1 10 s.data.toList := ⟨_, rfl⟩
  rw [← hws] at H h0 ⊢
  have hlen : 0 < ws.length := by rw [h0]; exact Nat.succ_pos _
  have hmx : ws.length ≤ 1000001 := by have := split1_len 10 s.data.toList; rw [← hws, ← Lib.size_eq] at this; omega
  clear hws h0 hs hm
  have hlast : (ws[ws.length - 1]?.getD []).isEmpty = endB ws := by unfold endB; rw [List.getLast?_eq_getElem?]
  have hget : ∀ i, i < (lnsOf ws).length → (lnsOf ws)[i]?.getD [] = ws[i]?.getD [] := fun i hi => by
    rw [List.getElem?_eq_getElem hi, List.getElem?_eq_getElem (Nat.lt_of_lt_of_le hi (lns_len ws)), lns_get ws i hi]
  have HG := Lib.hid hget
  have hll := lns_len ws
  have k1 : (0 : Int) < (ws.length : Int) := by omega
  clear hget
  obtain ⟨K, hK⟩ : ∃ K, ws.length = K + 1 := ⟨ws.length - 1, by omega⟩
  rw [hK] at H hlast hlen hll k1 hmx
  have hwK : IntKind.i64.wrap (K : Int) = K := IntWalk.i64_in _ (by omega)
  simp only [Nat.add_sub_cancel] at hlast
  cases he : endB ws with
  | true =>
    have hx : ws[K]?.getD [] = [] := by rw [he] at hlast; exact List.isEmpty_iff.1 hlast
    have hL : (lnsOf ws).length = K := by unfold lnsOf; rw [if_pos he, List.length_dropLast, hK]; rfl
    rw [hL] at HG ⊢
    clear hlast he hL hll
    have k2 : (0 : Int) ≤ K := by omega
    go_enter Tryz.func25, Tryz.ntmps25
    go_wp2_with (go_at_call 42; refine H.out.mono ?_; rintro e w1 ⟨W, rfl, hw, hl, hal⟩; have c := hw K (by omega); rw [hx] at c; simp only [Nat.zero_add] at c; replace c : w1.cell? ⟨w.heap.size, K, none⟩ = some (.string ⟨#[]⟩) := c; have HW := Lib.hid hw; have HA := Lib.hid hal; clear hw hal hl)
    go_ret2
    refine ⟨w.heap.size, _, rfl, fun i hi => ?_, by omega, ?_⟩
    · rw [HG.out i hi]
      have := HW.out i (by omega)
      rwa [Nat.zero_add] at this
    · rw [HA.out]; exact (Bl.refl w).alloc _
  | false =>
    have hx : ws[K]?.getD [] ≠ [] := fun h => by rw [h, he] at hlast; cases hlast
    have hL : (lnsOf ws).length = K + 1 := by unfold lnsOf; rw [if_neg (by rw [he]; decide), hK]
    rw [hL] at HG ⊢
    obtain ⟨Y, hY⟩ : ∃ Y, Y = bs (ws[K]?.getD []) := ⟨_, rfl⟩
    obtain ⟨hE, hE2⟩ := str_ne (s := Y) (by rw [hY, bs_size]; cases hz : ws[K]?.getD [] with | nil => exact absurd hz hx | cons a t => exact Nat.succ_ne_zero _)
    have HY := Lib.hid hY
    clear hlast he hL hll hx hY
    have k2 : (0 : Int) ≤ K := by omega
    go_enter Tryz.func25, Tryz.ntmps25
    go_wp2_with (go_at_call 42; refine H.out.mono ?_; rintro e w1 ⟨W, rfl, hw, hl, hal⟩; have c := hw K (by omega); rw [← HY.out] at c; simp only [Nat.zero_add] at c; have HW := Lib.hid hw; have HA := Lib.hid hal; clear hw hal hl)
    go_ret2
    refine ⟨w.heap.size, _, rfl, fun i hi => ?_, by omega, ?_⟩
    · rw [HG.out i hi]
      have := HW.out i (by omega)
      rwa [Nat.zero_add] at this
    · rw [HA.out]; exact (Bl.refl w).alloc _
end Go.Proofs.YtfamnaekelmkpaaGreatDoor
