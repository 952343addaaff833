/- words.Split: the words of a line. -/
import Derived.Test.YtkllhockcnokeaaDoorLine
import Derived.Test.YtkllhockcnokeaaDoorTxC
import Derived.Test.YtkllhockcnokeaaDoorLib
import Derived.Lib.SplitLaws
namespace Go.Proofs.YtkllhockcnokeaaDoor
open Go.RowKit Go.Lib Go.Sort

/-- The library's bound on short searches is there. -/
def MxAt (w : World) : Prop := ∃ m, w.cell? ⟨2, 0, none⟩ = some (.int .i64 m)
theorem MxAt.bl {w w' : World} (h : MxAt w) (g : Bl w w') : MxAt w' := by obtain ⟨m, hm⟩ := h; exact ⟨m, g.cell hm⟩
theorem split1_len (c : UInt8) : ∀ l : List UInt8, (split1 c l).length ≤ l.length + 1
  | [] => Nat.le_refl _
  | b :: r => by
    have h := split1_len c r
    obtain ⟨x, t, e⟩ := split1_ne c r
    unfold split1
    by_cases hb : b = c
    · rw [if_pos hb, List.length_cons, List.length_cons]; omega
    · rw [if_neg hb, e]
      rw [e] at h
      simp only [List.length_cons] at h ⊢
      omega
theorem split_raw (s : ByteArray) (w : World) (hs : s.size ≤ 1000000) (hm : MxAt w) :
    Calls Tryd.prog 50 #[.string s, .string ⟨#[32]⟩] w fun e w' => ∃ W, e = .returned (.slice (some ⟨w.heap.size, 0, none⟩) (split1 32 s.data.toList).length (split1 32 s.data.toList).length) ∧
      (∀ i, i < (split1 32 s.data.toList).length → w'.cell? ⟨w.heap.size, 0 + i, none⟩ = some (.string (bs ((split1 32 s.data.toList)[i]?.getD [])))) ∧ (split1 32 s.data.toList).length ≤ 1000001 ∧ w' = w.alloc W := by
  obtain ⟨m, hm⟩ := hm
  have e1 : Lib.splitK [32] 0 (Lib.countB s ⟨#[32]⟩) s.data.toList = split1 32 s.data.toList := split_one 32 s.data.toList
  have hd0 := Lib.splitB_data ⟨#[32]⟩ 0 (Lib.countB s ⟨#[32]⟩) s
  have hd : (Lib.splitB ⟨#[32]⟩ 0 (Lib.countB s ⟨#[32]⟩) s).map (·.data.toList) = split1 32 s.data.toList := hd0.trans e1
  have hl := Lib.splitB_all ⟨#[32]⟩ (by decide) 0 (Lib.countB s ⟨#[32]⟩) s rfl
  have hlen : (split1 32 s.data.toList).length = Lib.countB s ⟨#[32]⟩ + 1 := by rw [← hd, List.length_map, hl]
  refine (Tryd.strings_Split s ⟨#[32]⟩ m w (by omega) hm (by decide)).mono ?_
  rintro e w' ⟨rfl, rfl⟩
  refine ⟨_, by rw [hlen], fun i hi => ?_, ?_, rfl⟩
  · have hi2 : i < (Lib.splitB ⟨#[32]⟩ 0 (Lib.countB s ⟨#[32]⟩) s).length := by rw [hl]; omega
    have e2 : (split1 32 s.data.toList)[i]?.getD [] = ((Lib.splitB ⟨#[32]⟩ 0 (Lib.countB s ⟨#[32]⟩) s)[i]'hi2).data.toList := by
      rw [← hd, List.getElem?_map, List.getElem?_eq_getElem hi2]; rfl
    rw [e2, bs_of]
    have := heap_alloc_new w (.cells ((Lib.splitB ⟨#[32]⟩ 0 (Lib.countB s ⟨#[32]⟩) s).map Value.string).toArray 9)
    rw [cell_of_row _ w.heap.size (0 + i) _ _ (0, 0) this]
    simp [hi2]
  · have := split1_len 32 s.data.toList
    rw [← Lib.size_eq] at this
    omega

theorem LineV.new (w : World) {v : Value} {ws : List (List UInt8)} (h : WdsV w w.heap.size v ws) : LineV (w.alloc (.cells #[v, .bool false] 69)) w.heap.size ws false :=
  ⟨by simp, by simp, by simp, v, by simp, h.grown (bl_grown ((Bl.refl w).alloc _) _)⟩
set_option maxRecDepth 100000 in
theorem split_line (s : ByteArray) (w : World) (hs : s.size ≤ 1000000) (hm : MxAt w) :
    Calls Tryd.prog 33 #[.string s] w fun e w' => ∃ n, e = .returned (.pointer (some ⟨n, 0, none⟩)) ∧ w.heap.size ≤ n ∧ LineV w' n (split1 32 s.data.toList) false ∧ Bl w w' := by
  have H := Lib.hid (split_raw s w hs hm)
  clear hs hm
  go_enter Tryd.func33, Tryd.ntmps33
  go_wp2_with (go_at_call 50; refine H.out.mono ?_; rintro e w1 ⟨W, rfl, hw, hl, hal⟩; have HW := Lib.hid hw; have HA := Lib.hid hal; clear hw hal)
  go_ret
  have hsz : w1.heap.size = w.heap.size + 1 := by rw [HA.out]; simp
  refine ⟨w1.heap.size, rfl, by omega, LineV.new w1 ⟨_, _, rfl, Nat.le_refl _, by omega, fun _ => ⟨_, _, rfl, by omega, HW.out⟩⟩, ?_⟩
  rw [HA.out]
  exact ((Bl.refl w).alloc _).alloc _
set_option maxRecDepth 100000 in
set_option maxHeartbeats 800000 in
theorem number_ok (n : Nat) (a : List UInt8) (t : List (List UInt8)) (w : World) (h : LineV w n (a :: t) false) (hl : a.length ≤ 1000000) (ha : numOk 9 a = true) :
    Calls Tryd.prog 38 #[.pointer (some ⟨n, 0, none⟩)] w fun e w' => e = .returned (.int .i64 (val a)) ∧ LineV w' n t false ∧ w.grownBy w' (some n) := by
  have HN := Lib.hid (next_ok n a t w h)
  have HD := Lib.hid (fun w => number_any (bs a) w (by rw [bs_size]; omega))
  have hr : numR (bs a) = .returned (.tuple #[.int .i64 (val a), .bool true]) := by unfold numR; rw [bs_list, ha, numV_ok ha]
  rw [hr] at HD
  have HM := Lib.hid (fun w' (h' : LineV w' n t false) => must_any n t false true w' h')
  clear h hr ha hl
  generalize val a = V at *
  generalize bs a = S at *
  go_enter Tryd.func38, Tryd.ntmps38
  go_wp2_with (first
    | (go_at_call 51; refine HN.out.mono ?_; rintro e w1 ⟨rfl, hL, hg⟩; have HL := Lib.hid hL; clear hL)
    | (go_at_call 54; refine (HD.out _).mono ?_; rintro e w2 ⟨rfl, rfl⟩)
    | (go_at_call 52; refine (HM.out _ HL.out).mono ?_; rintro e w3 ⟨rfl, hL3, hg3⟩))
  go_ret
  exact ⟨rfl, hL3, hg.trans hg3⟩
set_option maxRecDepth 100000 in
set_option maxHeartbeats 800000 in
theorem number_bad (n : Nat) (ws : List (List UInt8)) (x : Bool) (w : World) (h : LineV w n ws x) (hl : ∀ a ∈ ws, a.length ≤ 1000000) (hb : x = true ∨ ws = [] ∨ numOk 9 (ws.headD []) = false) :
    Calls Tryd.prog 38 #[.pointer (some ⟨n, 0, none⟩)] w fun e w' => ∃ (V : Int) (ws' : List (List UInt8)), e = .returned (.int .i64 V) ∧ LineV w' n ws' true ∧ w.grownBy w' (some n) := by
  have key : ∃ (S : ByteArray) (V : Int) (ws' : List (List UInt8)) (x' : Bool), Hid (Calls Tryd.prog 51 #[.pointer (some ⟨n, 0, none⟩)] w fun e w' => e = .returned (.string S) ∧ LineV w' n ws' x' ∧ w.grownBy w' (some n)) ∧
      Hid (∀ w, Calls Tryd.prog 54 #[.string S] w fun e w' => e = .returned (.tuple #[.int .i64 V, .bool false]) ∧ w = w') := by
    by_cases hx : x = true ∨ ws = []
    · refine ⟨⟨#[]⟩, 0, ws, true, next_no n ws x w h hx, fun w => ?_⟩
      have := number_any ⟨#[]⟩ w (by decide)
      rwa [show numR ⟨#[]⟩ = .returned (.tuple #[.int .i64 0, .bool false]) from rfl] at this
    · cases ws with
      | nil => exact absurd (.inr rfl) hx
      | cons a t =>
        obtain rfl : x = false := by cases x with
          | true => exact absurd (.inl rfl) hx
          | false => rfl
        have ha : numOk 9 a = false := by rcases hb with h | h | h; cases h; cases h; exact h
        refine ⟨bs a, 0, t, false, next_ok n a t w h, fun w => ?_⟩
        have := number_any (bs a) w (by rw [bs_size]; have := hl a List.mem_cons_self; omega)
        rwa [show numR (bs a) = .returned (.tuple #[.int .i64 0, .bool false]) by unfold numR; rw [bs_list, ha, numV_no ha]] at this
  obtain ⟨S, V, ws', x', HN, HD⟩ := key
  have HM := Lib.hid (fun w' (h' : LineV w' n ws' x') => must_any n ws' x' false w' h')
  rw [show (x' || !false) = true by cases x' <;> rfl] at HM
  clear h hb hl
  go_enter Tryd.func38, Tryd.ntmps38
  go_wp2_with (first
    | (go_at_call 51; refine HN.out.mono ?_; rintro e w1 ⟨rfl, hL, hg⟩; have HL := Lib.hid hL; clear hL)
    | (go_at_call 54; refine (HD.out _).mono ?_; rintro e w2 ⟨rfl, rfl⟩)
    | (go_at_call 52; refine (HM.out _ HL.out).mono ?_; rintro e w3 ⟨rfl, hL3, hg3⟩))
  go_ret
  exact ⟨V, ws', rfl, hL3, hg.trans hg3⟩
end Go.Proofs.YtkllhockcnokeaaDoor
