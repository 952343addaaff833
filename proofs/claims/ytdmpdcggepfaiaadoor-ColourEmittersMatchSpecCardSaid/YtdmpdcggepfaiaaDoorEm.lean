/- CheckEmitters of the program. -/
import Derived.Test.YtdmpdcggepfaiaaDoorEmM
import Derived.Test.YtdmpdcggepfaiaaDoorName
import Derived.Test.YtdmpdcggepfaiaaDoorCol
namespace Go.Proofs.YtdmpdcggepfaiaaDoor
open Go.RowKit Go.Sort Go.Maps Go.WideMaps

/-- The cells of one emitter. -/
def Cel4 (w : World) (n : Nat) (e : Em) : Prop := w.cell? ⟨n, 0, none⟩ = some (.string e.name) ∧ w.cell? ⟨n, 1, none⟩ = some (.int .i64 e.r) ∧ w.cell? ⟨n, 2, none⟩ = some (.int .i64 e.g) ∧ w.cell? ⟨n, 3, none⟩ = some (.int .i64 e.b)
theorem Cel4.bl {w w' : World} {n : Nat} {e : Em} (h : Cel4 w n e) (g : Bl w w') : Cel4 w' n e := ⟨g.cell h.1, g.cell h.2.1, g.cell h.2.2.1, g.cell h.2.2.2⟩
theorem Cel4.new (w : World) (t : TypeId) (e : Em) : Cel4 (w.alloc (.cells #[.string e.name, .int .i64 e.r, .int .i64 e.g, .int .i64 e.b] t)) w.heap.size e := ⟨by simp, by simp, by simp, by simp⟩
theorem Cel4.grown {w w' : World} {n B : Nat} {e : Em} (h : Cel4 w n e) (g : w.grownBy w' (some B)) (hne : n ≠ B) : Cel4 w' n e := by
  have hlt : n < w.heap.size := World.block_lt_of_cell? _ _ h.1
  have e0 : w'.heap[n]? = w.heap[n]? := g.block n hlt (fun e => hne (by cases e; rfl))
  refine ⟨?_, ?_, ?_, ?_⟩
  · rw [World.cell?_of_block e0]; exact h.1
  · rw [World.cell?_of_block e0]; exact h.2.1
  · rw [World.cell?_of_block e0]; exact h.2.2.1
  · rw [World.cell?_of_block e0]; exact h.2.2.2

/-- Where the loop stands. -/
def EmRel (w : World) (L : List Em) (i : Value) (wr : World) : Prop := ∃ k : Nat, k ≤ L.length ∧ i = .int .i64 k ∧
  SetAt wr 9 4 w.heap.size k (namesOf (L.take k)) ∧ ckEms [] L = ckEms (namesOf (L.take k)) (L.drop k) ∧ Bl w wr

theorem isName_is (s : ByteArray) (v : Bool) (h : isNm s.data.toList = v) (w : World) (hs : s.size ≤ 9223372036854775807) :
    Calls Tryd.prog 60 #[.string s] w fun e w' => e = .returned (.bool v) ∧ Bl w w' := by subst h; exact isName_any s w hs

set_option maxRecDepth 100000 in
set_option maxHeartbeats 3200000 in
theorem checkEms_any (b off cap : Nat) (L : List Em) (w : World) (h1 : 0 < L.length) (h12 : L.length ≤ 12) (hL : EmsAt w b off L) (hok : EmsOk L) :
    Calls Tryd.prog 24 #[.slice (some ⟨b, off, none⟩) L.length cap] w fun e w' => e = .returned (.int .i64 (ckEms [] L)) ∧ Bl w w' := by
  have hmm := @run_makeMap Tryd.prog
  have HL := Lib.hid hL
  have HO := Lib.hid hok
  have t1 : ((L.length : Int) == 0) = false := by rw [beq_eq_false_iff_ne]; omega
  have t2 : decide ((12 : Int) < (L.length : Int)) = false := by simp only [decide_eq_false_iff_not]; omega
  clear hL hok
  go_enter Tryd.func24, Tryd.ntmps24
  go_wp2
  go_loopw [18] (fun i wr => EmRel w L i wr) (fun i _ => L.length - (intOf i).toNat)
  case atStart => exact ⟨0, Nat.zero_le _, rfl, SetAt.made _ _ _, rfl, (Bl.refl w).alloc _⟩
  case round =>
    obtain ⟨k, hk, rfl, hset, hck, hb⟩ := hrel
    have HS := Lib.hid hset
    have HK := Lib.hid hck
    have hBs : w.heap.size < wr.heap.size := by
      obtain ⟨es, clock, hbl, _⟩ := hset
      rcases Nat.lt_or_ge w.heap.size wr.heap.size with h | h
      · exact h
      · rw [Array.getElem?_eq_none h] at hbl; cases hbl
    clear hset hck
    by_cases hlt : k < L.length
    · have hstep := Lib.hid (ckEms_at L k hlt [])
      obtain ⟨c0, c1, c2, c3⟩ := (HL.out.bl hb) k hlt
      have hsz := HO.out L[k] (List.getElem_mem hlt)
      obtain ⟨e, he⟩ : ∃ e, e = L[k] := ⟨_, rfl⟩
      have HE := Lib.hid he
      rw [← he] at hstep c0 c1 c2 c3 hsz
      clear he
      have hne : wr.heap.size ≠ w.heap.size := by omega
      have hz4 : wr.heap.size < (wr.alloc (.cells #[.string e.name, .int .i64 e.r, .int .i64 e.g, .int .i64 e.b] 55)).heap.size := by simp
      have hB : Bl w (wr.alloc (.cells #[.string e.name, .int .i64 e.r, .int .i64 e.g, .int .i64 e.b] 55)) := hb.alloc _
      have hmaxk : k ≤ 12 := by omega
      cases hn : isNm e.name.data.toList with
      | false =>
        have HN := Lib.hid (fun w => isName_is e.name false hn w hsz)
        have hr : Hid (ckEms [] L = 5) := by
          have h5 : ckEm ([] ++ namesOf (L.take k)) e = 5 := by unfold ckEm; rw [if_pos hn]
          show _ = _; rw [HK.out]; have := hstep.out; rw [if_neg (by rw [h5]; decide), h5] at this; exact this
        clear hn
        go_wp2_with (first
            | (go_at_call 60; refine (HN.out _).mono ?_; rintro e' w1 ⟨rfl, g1⟩; have e4 := (Cel4.new wr 55 e).bl g1; have hs1 := Lib.hid (HS.out.bl (((Bl.refl wr).alloc _).trans g1)); obtain ⟨d0, d1, d2, d3⟩ := e4))
        go_ret
        exact ⟨ret_int hr.out.symm, hB.trans g1⟩
      | true =>
        have HN := Lib.hid (fun w => isName_is e.name true hn w hsz)
        cases hc : (namesOf (L.take k)).contains e.name.data.toList with
        | true =>
          have HC := Lib.hid hc
          have hr : Hid (ckEms [] L = 6) := by
            have h5 : ckEm ([] ++ namesOf (L.take k)) e = 6 := by unfold ckEm; rw [if_neg (by rw [hn]; decide), List.nil_append, if_pos hc]
            show _ = _; rw [HK.out]; have := hstep.out; rw [if_neg (by rw [h5]; decide), h5] at this; exact this
          clear hn hc
          go_wp2_with (first
              | (go_at_call 60; refine (HN.out _).mono ?_; rintro e' w1 ⟨rfl, g1⟩; have e4 := (Cel4.new wr 55 e).bl g1; have hs1 := Lib.hid (HS.out.bl (((Bl.refl wr).alloc _).trans g1)); obtain ⟨d0, d1, d2, d3⟩ := e4)
              | (at_lookup; refine wpList_lookup_set _ rfl _ _ 94 rfl 9 4 Tryd.underlying9 Tryd.underlying94 Tryd.underlying4 (by kernel_rfl) w.heap.size k _ rfl hs1.out e.name hsz rfl ?_; rw [HC.out]))
          go_ret
          exact ⟨ret_int hr.out.symm, hB.trans g1⟩
        | false =>
          have HC := Lib.hid hc
          cases hi : isCol e.r e.g e.b with
          | false =>
            have HCk := Lib.hid (fun w => show Calls Tryd.prog 29 #[.agg #[.int .i64 e.r, .int .i64 e.g, .int .i64 e.b]] w fun e' w' => e' = .returned (.int .i64 1) ∧ Gr w w' from by have := check_col e.r e.g e.b w; unfold ckCol at this; rw [hi] at this; exact this)
            have hr : Hid (ckEms [] L = 1) := by
              have h5 : ckEm ([] ++ namesOf (L.take k)) e = 1 := by unfold ckEm; rw [if_neg (by rw [hn]; decide), List.nil_append, if_neg (by rw [hc]; decide), if_pos (show (isLev e.r && isLev e.g && isLev e.b) = false from hi)]
              show _ = _; rw [HK.out]; have := hstep.out; rw [if_neg (by rw [h5]; decide), h5] at this; exact this
            clear hn hc hi
            go_wp2_with (first
                | (go_at_call 60; refine (HN.out _).mono ?_; rintro e' w1 ⟨rfl, g1⟩; have e4 := (Cel4.new wr 55 e).bl g1; have hs1 := Lib.hid (HS.out.bl (((Bl.refl wr).alloc _).trans g1)); obtain ⟨d0, d1, d2, d3⟩ := e4)
                | (at_lookup; refine wpList_lookup_set _ rfl _ _ 94 rfl 9 4 Tryd.underlying9 Tryd.underlying94 Tryd.underlying4 (by kernel_rfl) w.heap.size k _ rfl hs1.out e.name hsz rfl ?_; rw [HC.out])
                | (at_mapUpdate; refine wpList_mapUpdate_own _ rfl _ _ _ 94 rfl 9 4 (string_keyed Tryd.underlying9) Tryd.underlying94 (plainElem (H := Unit) Tryd.prog 4) w.heap.size k _ rfl hs1.out (by unfold maxLen; omega) _ _ _ rfl rfl (keyOf_string_mk Tryd.underlying9 hsz) _ [] (plainElem_bool Tryd.underlying4 true) ?_; intro w2 hown2 hgrow2; have e5 := Cel4.grown ⟨d0, d1, d2, d3⟩ hgrow2 hne; have hs2 := Lib.hid (nset_snoc _ _ ▸ hown2); clear hown2 d0 d1 d2 d3; obtain ⟨d0, d1, d2, d3⟩ := e5)
                | (go_at_call 29; refine (HCk.out _).mono ?_; rintro e' w3 ⟨rfl, k3⟩; have g3 := k3.bl; clear k3; have e6 := Cel4.bl ⟨d0, d1, d2, d3⟩ g3; clear d0 d1 d2 d3; obtain ⟨d0, d1, d2, d3⟩ := e6))
            go_ret
            exact ⟨ret_int hr.out.symm, ((hB.trans g1).grown hgrow2 (fun j hj => by cases hj; exact Nat.le_refl _)).trans g3⟩
          | true =>
            have HCk := Lib.hid (fun w => show Calls Tryd.prog 29 #[.agg #[.int .i64 e.r, .int .i64 e.g, .int .i64 e.b]] w fun e' w' => e' = .returned (.int .i64 0) ∧ Gr w w' from by have := check_col e.r e.g e.b w; unfold ckCol at this; rw [hi] at this; exact this)
            by_cases hz : e.r = 0 ∧ e.g = 0 ∧ e.b = 0
            · have hr : Hid (ckEms [] L = 8) := by
                have h5 : ckEm ([] ++ namesOf (L.take k)) e = 8 := by unfold ckEm; rw [if_neg (by rw [hn]; decide), List.nil_append, if_neg (by rw [hc]; decide), if_neg (by rw [show (isLev e.r && isLev e.g && isLev e.b) = true from hi]; decide), if_pos hz]
                show _ = _; rw [HK.out]; have := hstep.out; rw [if_neg (by rw [h5]; decide), h5] at this; exact this
              obtain ⟨z1, z2, z3⟩ := hz
              have q1 : (e.r == 0) = true := by simpa using z1
              have q2 : (e.g == 0) = true := by simpa using z2
              have q3 : (e.b == 0) = true := by simpa using z3
              clear hn hc hi z1 z2 z3
              go_wp2_with (first
                  | (go_at_call 60; refine (HN.out _).mono ?_; rintro e' w1 ⟨rfl, g1⟩; have e4 := (Cel4.new wr 55 e).bl g1; have hs1 := Lib.hid (HS.out.bl (((Bl.refl wr).alloc _).trans g1)); obtain ⟨d0, d1, d2, d3⟩ := e4)
                  | (at_lookup; refine wpList_lookup_set _ rfl _ _ 94 rfl 9 4 Tryd.underlying9 Tryd.underlying94 Tryd.underlying4 (by kernel_rfl) w.heap.size k _ rfl hs1.out e.name hsz rfl ?_; rw [HC.out])
                  | (at_mapUpdate; refine wpList_mapUpdate_own _ rfl _ _ _ 94 rfl 9 4 (string_keyed Tryd.underlying9) Tryd.underlying94 (plainElem (H := Unit) Tryd.prog 4) w.heap.size k _ rfl hs1.out (by unfold maxLen; omega) _ _ _ rfl rfl (keyOf_string_mk Tryd.underlying9 hsz) _ [] (plainElem_bool Tryd.underlying4 true) ?_; intro w2 hown2 hgrow2; have e5 := Cel4.grown ⟨d0, d1, d2, d3⟩ hgrow2 hne; have hs2 := Lib.hid (nset_snoc _ _ ▸ hown2); clear hown2 d0 d1 d2 d3; obtain ⟨d0, d1, d2, d3⟩ := e5)
                  | (go_at_call 29; refine (HCk.out _).mono ?_; rintro e' w3 ⟨rfl, k3⟩; have g3 := k3.bl; clear k3; have e6 := Cel4.bl ⟨d0, d1, d2, d3⟩ g3; clear d0 d1 d2 d3; obtain ⟨d0, d1, d2, d3⟩ := e6))
              go_ret
              exact ⟨ret_int hr.out.symm, ((hB.trans g1).grown hgrow2 (fun j hj => by cases hj; exact Nat.le_refl _)).trans g3⟩
            · have hr : Hid (ckEms [] L = ckEms (namesOf (L.take (k + 1))) (L.drop (k + 1))) := by
                have h5 : ckEm ([] ++ namesOf (L.take k)) e = 0 := by unfold ckEm; rw [if_neg (by rw [hn]; decide), List.nil_append, if_neg (by rw [hc]; decide), if_neg (by rw [show (isLev e.r && isLev e.g && isLev e.b) = true from hi]; decide), if_neg hz]
                show _ = _; rw [HK.out]; have := hstep.out; rw [if_pos h5, List.nil_append, List.nil_append] at this; exact this
              have hnx : Hid (namesOf (L.take k) ++ [e.name.data.toList] = namesOf (L.take (k + 1))) := by
                show _ = _; unfold namesOf; rw [List.take_succ_eq_append_getElem hlt, List.map_append, ← HE.out]; rfl
              have key : ((e.r == 0) = false) ∨ ((e.r == 0) = true ∧ (e.g == 0) = false) ∨ ((e.r == 0) = true ∧ (e.g == 0) = true ∧ (e.b == 0) = false) := by
                simp only [beq_eq_false_iff_ne, beq_iff_eq]; omega
              clear hn hc hi hz
              rcases key with q1 | ⟨q1, q2⟩ | ⟨q1, q2, q3⟩
              all_goals
                go_wp2_with (first
                    | (go_at_call 60; refine (HN.out _).mono ?_; rintro e' w1 ⟨rfl, g1⟩; have e4 := (Cel4.new wr 55 e).bl g1; have hs1 := Lib.hid (HS.out.bl (((Bl.refl wr).alloc _).trans g1)); obtain ⟨d0, d1, d2, d3⟩ := e4)
                    | (at_lookup; refine wpList_lookup_set _ rfl _ _ 94 rfl 9 4 Tryd.underlying9 Tryd.underlying94 Tryd.underlying4 (by kernel_rfl) w.heap.size k _ rfl hs1.out e.name hsz rfl ?_; rw [HC.out])
                    | (at_mapUpdate; refine wpList_mapUpdate_own _ rfl _ _ _ 94 rfl 9 4 (string_keyed Tryd.underlying9) Tryd.underlying94 (plainElem (H := Unit) Tryd.prog 4) w.heap.size k _ rfl hs1.out (by unfold maxLen; omega) _ _ _ rfl rfl (keyOf_string_mk Tryd.underlying9 hsz) _ [] (plainElem_bool Tryd.underlying4 true) ?_; intro w2 hown2 hgrow2; have e5 := Cel4.grown ⟨d0, d1, d2, d3⟩ hgrow2 hne; have hs2 := Lib.hid (nset_snoc _ _ ▸ hown2); clear hown2 d0 d1 d2 d3; obtain ⟨d0, d1, d2, d3⟩ := e5)
                    | (go_at_call 29; refine (HCk.out _).mono ?_; rintro e' w3 ⟨rfl, k3⟩; have g3 := k3.bl; clear k3; have e6 := Cel4.bl ⟨d0, d1, d2, d3⟩ g3; clear d0 d1 d2 d3; obtain ⟨d0, d1, d2, d3⟩ := e6))
                go_roundw
                case rel => exact ⟨k + 1, by omega, by go_num, by rw [← hnx.out]; exact SetAt.bl (w := w2) hs2.out g3, hr.out, ((hB.trans g1).grown hgrow2 (fun j hj => by cases hj; exact Nat.le_refl _)).trans g3⟩
                case measure => simp [intOf]; omega
    · obtain rfl : k = L.length := by omega
      have hfin : Hid (ckEms [] L = 0) := by show _ = _; rw [HK.out, List.drop_length]; rfl
      go_wp2
      go_ret
      exact ⟨ret_int hfin.out.symm, hb⟩
end Go.Proofs.YtdmpdcggepfaiaaDoor
