/- ReadBook of the program, at any text. -/
import Derived.Test.YtfamnaekelmkpaaGreatDoorRdB
import Derived.Test.YtfamnaekelmkpaaGreatDoorGelY
namespace Go.Proofs.YtfamnaekelmkpaaGreatDoor
open Go.RowKit Go.Lib Go.Sort

/-- What ReadBook hands back. -/
def rbN (l : List UInt8) : Int := if 60000 < l.length then 0 else match rdl lnOk 1 (split1 10 l) with
  | some n => (n : Int)
  | none => 0
def rbG (l : List UInt8) : List Gel := (split1 10 l).dropLast.map lnGel
def rbF (l : List UInt8) : Int := if 60000 < l.length then 2 else match rdl lnOk 1 (split1 10 l) with
  | some _ => 9
  | none => ckBook (rbG l)
def rbL (l : List UInt8) : List Gel := if rbF l = 0 then rbG l else []
theorem lnGel_len (l : List UInt8) : (lnGel l).name.size ≤ l.length := by
  unfold lnGel
  split
  · rename_i a b t h
    show (bs (jn t)).size ≤ _
    rw [bs_size]
    exact (split_sizes h).2.2
  · show (bs []).size ≤ _
    rw [bs_size]; exact Nat.zero_le _
theorem word_len (c : UInt8) (l : List UInt8) : ∀ x ∈ split1 c l, x.length ≤ l.length := by
  obtain ⟨w, ws, h⟩ := split1_ne c l
  rw [h]
  intro x hx
  have := congrArg List.length (join_split h)
  unfold joinW at this
  rw [List.length_append] at this
  rcases List.mem_cons.1 hx with rfl | hx
  · omega
  · have h2 : ∀ (t : List (List UInt8)), x ∈ t → x.length ≤ (t.flatMap fun y => c :: y).length := by
      intro t
      induction t with
      | nil => intro h; cases h
      | cons y t ih =>
        intro h
        rw [List.flatMap_cons, List.length_append, List.length_cons]
        rcases List.mem_cons.1 h with rfl | h
        · omega
        · have := ih h; omega
    have := h2 ws hx; omega
theorem rbG_ok {l : List UInt8} (h : l.length ≤ 60000) : GelsOk (rbG l) := by
  intro e he
  obtain ⟨x, hx, rfl⟩ := List.mem_map.1 he
  have := lnGel_len x
  have := word_len 10 l x (List.dropLast_subset _ hx)
  omega
theorem gv_nil (w : World) : GelVal w (.slice none 0 0) [] := ⟨none, 0, rfl, by simp, fun h => absurd h (by simp)⟩
set_option maxRecDepth 100000 in
theorem readLines_large (s : ByteArray) (f : Value) (w : World) (h : 60000 < s.size) :
    Calls Tryz.prog 22 #[.string s, .int .i64 60000, f] w fun e w' => e = .returned (.tuple #[.int .i64 0, .int .i64 2]) ∧ w' = w := by
  have z1 : (60000 : Int) < (s.size : Int) := by omega
  clear h
  go_enter Tryz.func22, Tryz.ntmps22
  go_wp2
  go_ret2
  exact ⟨rfl, rfl⟩
set_option maxRecDepth 100000 in
set_option maxHeartbeats 1600000 in
theorem readBook_bad (s : ByteArray) (N F : Int) (w : World) (hF : F ≠ 0)
    (HR : Calls Tryz.prog 22 #[.string s, .int .i64 60000, .func (.func 23) #[] #[.pointer (some ⟨w.heap.size, 0, none⟩)]] (w.alloc (.cells #[.slice none 0 0] 22)) fun e w' => e = .returned (.tuple #[.int .i64 N, .int .i64 F]) ∧ Bl w w') :
    Calls Tryz.prog 8 #[.string s] w fun e w' => e = .returned (.tuple #[.slice none 0 0, .int .i64 N, .int .i64 F]) ∧ Bl w w' := by
  have HRR := Lib.hid HR
  have t1 : (F != 0) = true := by simpa using hF
  clear HR hF
  go_enter Tryz.func8, Tryz.ntmps8
  go_wp2_with (go_at_call 22; refine HRR.out.mono ?_; rintro e w1 ⟨rfl, m1⟩)
  go_returns
  exact ⟨rfl, m1⟩
set_option maxRecDepth 100000 in
set_option maxHeartbeats 1600000 in
theorem readBook_ck (s : ByteArray) (L : List Gel) (w : World) (hok : GelsOk L) (hck : ckBook L ≠ 0)
    (HR : Calls Tryz.prog 22 #[.string s, .int .i64 60000, .func (.func 23) #[] #[.pointer (some ⟨w.heap.size, 0, none⟩)]] (w.alloc (.cells #[.slice none 0 0] 22)) fun e w' => e = .returned (.tuple #[.int .i64 0, .int .i64 0]) ∧ BoxV w' w.heap.size L ∧ Bl w w') :
    Calls Tryz.prog 8 #[.string s] w fun e w' => e = .returned (.tuple #[.slice none 0 0, .int .i64 0, .int .i64 (ckBook L)]) ∧ Bl w w' := by
  have HRR := Lib.hid HR
  have t1 : (ckBook L != 0) = true := by simpa using hck
  have HCK := Lib.hid (fun v w' (h : GelVal w' v L) => checkBook_any v L w' h hok)
  clear HR hck hok
  generalize ckBook L = F at *
  go_enter Tryz.func8, Tryz.ntmps8
  go_wp2_with (first
    | (go_at_call 22; refine HRR.out.mono ?_; rintro e w1 ⟨rfl, hbx, hb1⟩; obtain ⟨_, v, c1, hrow⟩ := hbx; have HV := Lib.hid hrow.val; clear hrow)
    | (go_at_call 6; refine (HCK.out _ _ HV.out).mono ?_; rintro e w2 ⟨rfl, m2⟩))
  go_returns
  exact ⟨rfl, hb1.trans m2⟩
theorem readBook_any (s : ByteArray) (w : World) (hm : MxAt w) (hev : EvAt w) :
    Calls Tryz.prog 8 #[.string s] w fun e w' => ∃ v, e = .returned (.tuple #[v, .int .i64 (rbN s.data.toList), .int .i64 (rbF s.data.toList)]) ∧ GelVal w' v (rbL s.data.toList) ∧ Bl w w' := by
  have hsz := Lib.size_eq s
  by_cases h6 : 60000 < s.size
  · have e1 : rbN s.data.toList = 0 := by unfold rbN; rw [if_pos (by omega)]
    have e2 : rbF s.data.toList = 2 := by unfold rbF; rw [if_pos (by omega)]
    have e3 : rbL s.data.toList = [] := by unfold rbL; rw [e2, if_neg (by decide)]
    rw [e1, e2, e3]
    refine (readBook_bad s 0 2 w (by decide) ((readLines_large s _ _ h6).mono fun e w' ⟨a, b⟩ => ⟨a, by rw [b]; exact (Bl.refl w).alloc _⟩)).mono ?_
    rintro e w' ⟨rfl, hb⟩
    exact ⟨_, rfl, gv_nil _, hb⟩
  · have HG : ∀ line : List UInt8, line.length ≤ 60000 → line ∈ (split1 10 s.data.toList).dropLast → ∀ w', Bl w w' → Calls Tryz.prog 24 #[.string (bs line)] w' fun x w'' => ∃ e, (lnOk line = true → e = lnGel line) ∧ x = .returned (.tuple #[gelV e, .bool (lnOk line)]) ∧ Bl w' w'' :=
      fun line hl _ w' m => readGel_any line w' (by omega) (hm.bl m) (hev.bl m)
    have HRL := readLines_any s w.heap.size (w.alloc (.cells #[.slice none 0 0] 22)) (by omega) (BoxV.new w) (fun line hl hmm w' hb => HG line hl hmm w' (bl_of_below ((Bl.refl w).alloc _) hb (Nat.le_refl _)))
    have hlen : ¬ 60000 < s.data.toList.length := by omega
    cases hr : rdl lnOk 1 (split1 10 s.data.toList) with
    | some n =>
      have e1 : rbN s.data.toList = n := by unfold rbN; rw [if_neg hlen, hr]
      have e2 : rbF s.data.toList = 9 := by unfold rbF; rw [if_neg hlen, hr]
      have e3 : rbL s.data.toList = [] := by unfold rbL; rw [e2, if_neg (by decide)]
      rw [e1, e2, e3]
      refine (readBook_bad s n 9 w (by decide) (HRL.mono ?_)).mono ?_
      · rintro e w' ⟨hb, ⟨h, _⟩ | ⟨m, h, he⟩⟩
        · rw [hr] at h; cases h
        · rw [hr] at h; cases h
          exact ⟨he, bl_of_below ((Bl.refl w).alloc _) hb (Nat.le_refl _)⟩
      · rintro e w' ⟨rfl, hb⟩
        exact ⟨_, rfl, gv_nil _, hb⟩
    | none =>
      have e1 : rbN s.data.toList = 0 := by unfold rbN; rw [if_neg hlen, hr]
      have e2 : rbF s.data.toList = ckBook (rbG s.data.toList) := by unfold rbF; rw [if_neg hlen, hr]
      have hgo := rbG_ok (l := s.data.toList) (by omega)
      by_cases hc : ckBook (rbG s.data.toList) = 0
      · have e3 : rbL s.data.toList = rbG s.data.toList := by unfold rbL; rw [e2, if_pos hc]
        rw [e1, e2, e3, hc]
        exact readBook_ok s (rbG s.data.toList) w (by omega) hr rfl hc hgo HG
      · have e3 : rbL s.data.toList = [] := by unfold rbL; rw [e2, if_neg hc]
        rw [e1, e2, e3]
        refine (readBook_ck s (rbG s.data.toList) w hgo hc (HRL.mono ?_)).mono ?_
        · rintro e w' ⟨hb, ⟨_, he, hbx⟩ | ⟨m, h, _⟩⟩
          · exact ⟨he, hbx, bl_of_below ((Bl.refl w).alloc _) hb (Nat.le_refl _)⟩
          · rw [hr] at h; cases h
        · rintro e w' ⟨rfl, hb⟩
          exact ⟨_, rfl, gv_nil _, hb⟩
end Go.Proofs.YtfamnaekelmkpaaGreatDoor
