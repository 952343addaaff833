/- The words of a line: what Next, Fixed, Option and Number do to any line, right or wrong. -/
import Derived.Test.YtkllhockcnokeaaDoorLine
import Derived.Test.YtkllhockcnokeaaDoorSpl
namespace Go.Proofs.YtkllhockcnokeaaDoor
open Go.RowKit Go.Lib Go.Sort

/-- The next word, the words behind it, whether the line is wrong then. -/
def nxW (ws : List (List UInt8)) (x : Bool) : List UInt8 := if x = true then [] else ws.headD []
def nxT (ws : List (List UInt8)) (x : Bool) : List (List UInt8) := if x = true then ws else ws.tail
def nxX (ws : List (List UInt8)) (x : Bool) : Bool := x || ws.isEmpty
def Short (ws : List (List UInt8)) : Prop := ∀ a ∈ ws, a.length ≤ 1000000
theorem nxW_len {ws : List (List UInt8)} {x : Bool} (h : Short ws) : (nxW ws x).length ≤ 1000000 := by
  unfold nxW
  split
  · simp
  · cases ws with
    | nil => simp
    | cons a t => exact h a (by simp)
theorem nxT_short {ws : List (List UInt8)} {x : Bool} (h : Short ws) : Short (nxT ws x) := by
  unfold nxT
  split
  · exact h
  · exact fun a ha => h a (List.mem_of_mem_tail ha)
theorem next_any (n : Nat) (ws : List (List UInt8)) (x : Bool) (w : World) (h : LineV w n ws x) :
    Calls Tryd.prog 51 #[.pointer (some ⟨n, 0, none⟩)] w fun e w' => e = .returned (.string (bs (nxW ws x))) ∧ LineV w' n (nxT ws x) (nxX ws x) ∧ w.grownBy w' (some n) := by
  cases x with
  | true => exact next_no n ws true w h (.inl rfl)
  | false =>
    cases ws with
    | nil => exact next_no n [] false w h (.inr rfl)
    | cons a t => exact next_ok n a t w h
set_option maxHeartbeats 1600000 in
theorem fixed_any (n : Nat) (ws : List (List UInt8)) (x : Bool) (s : ByteArray) (w : World) (h : LineV w n ws x) :
    Calls Tryd.prog 36 #[.pointer (some ⟨n, 0, none⟩), .string s] w fun e w' => e = .returned (.tuple #[]) ∧ LineV w' n (nxT ws x) (nxX ws x || !(nxW ws x == s.data.toList)) ∧ w.grownBy w' (some n) := by
  have HN := Lib.hid (next_any n ws x w h)
  have e1 : ((bs (nxW ws x)).toList == s.toList) = (nxW ws x == s.data.toList) := by rw [Lib.toList_data, Lib.toList_data, bs_list]
  generalize (nxW ws x == s.data.toList) = P at *
  generalize bs (nxW ws x) = W at *
  generalize nxT ws x = T at *
  generalize nxX ws x = X at *
  clear h
  go_enter Tryd.func36, Tryd.ntmps36
  go_wp2_with (first
    | (go_at_call 51; refine HN.out.mono ?_; rintro e w1 ⟨rfl, l1, g1⟩; have L1 := Lib.hid l1; clear l1)
    | (go_at_call 52; refine (must_any n T X P _ L1.out).mono ?_; rintro e w3 ⟨rfl, l3, g3⟩; have L3 := Lib.hid l3; clear l3))
  go_end0
  exact ⟨rfl, L3.out, g1.trans g3⟩
set_option maxHeartbeats 1600000 in
/-- Number, on any line. -/
theorem lnumber_any (n : Nat) (ws : List (List UInt8)) (x : Bool) (w : World) (h : LineV w n ws x) (hs : Short ws) :
    Calls Tryd.prog 38 #[.pointer (some ⟨n, 0, none⟩)] w fun e w' => e = .returned (.int .i64 (numV (nxW ws x))) ∧ LineV w' n (nxT ws x) (nxX ws x || !numOk 9 (nxW ws x)) ∧ w.grownBy w' (some n) := by
  have HN := Lib.hid (next_any n ws x w h)
  have HD := Lib.hid (fun w => number_any (bs (nxW ws x)) w (by rw [bs_size]; have := nxW_len (x := x) hs; omega))
  have hr : numR (bs (nxW ws x)) = .returned (.tuple #[.int .i64 (numV (nxW ws x)), .bool (numOk 9 (nxW ws x))]) := by unfold numR; rw [bs_list]
  rw [hr] at HD
  clear h hs hr
  generalize numV (nxW ws x) = V at *
  generalize numOk 9 (nxW ws x) = P at *
  generalize bs (nxW ws x) = W at *
  generalize nxT ws x = T at *
  generalize nxX ws x = X at *
  go_enter Tryd.func38, Tryd.ntmps38
  go_wp2_with (first
    | (go_at_call 51; refine HN.out.mono ?_; rintro e w1 ⟨rfl, l1, g1⟩; have L1 := Lib.hid l1; clear l1)
    | (go_at_call 54; refine (HD.out _).mono ?_; rintro e w2 ⟨rfl, rfl⟩)
    | (go_at_call 52; refine (must_any n T X P _ L1.out).mono ?_; rintro e w3 ⟨rfl, l3, g3⟩; have L3 := Lib.hid l3; clear l3))
  go_ret
  exact ⟨rfl, L3.out, g1.trans g3⟩
/-- Does the line go on with this word? -/
def opB (ws : List (List UInt8)) (x : Bool) (l : List UInt8) : Bool := !x && (match ws with
  | [] => false
  | a :: _ => a == l)
def opT (ws : List (List UInt8)) (x : Bool) (l : List UInt8) : List (List UInt8) := if opB ws x l = true then ws.tail else ws
set_option maxRecDepth 100000 in
set_option maxHeartbeats 1600000 in
theorem option_any (n : Nat) (ws : List (List UInt8)) (x : Bool) (s : ByteArray) (w : World) (h : LineV w n ws x) :
    Calls Tryd.prog 39 #[.pointer (some ⟨n, 0, none⟩), .string s] w fun e w' => e = .returned (.bool (opB ws x s.data.toList)) ∧ LineV w' n (opT ws x s.data.toList) x ∧ w.grownBy w' (some n) := by
  have HL := Lib.hid h
  obtain ⟨h1, h2, h3, v, h4, o, cap, rfl, h5, h6, h7⟩ := h
  cases x with
  | true =>
    have e1 : Hid (opB ws true s.data.toList = false) := by show _ = _; rfl
    have e2 : Hid (opT ws true s.data.toList = ws) := by show _ = _; unfold opT; rw [e1.out]; rfl
    clear h7
    go_enter Tryd.func39, Tryd.ntmps39
    go_wp2
    go_ret
    exact ⟨by rw [e1.out]; rfl, by rw [e2.out]; exact HL.out, World.grownBy.refl _ _⟩
  | false =>
    cases ws with
    | nil =>
      have e1 : Hid (opB [] false s.data.toList = false) := by show _ = _; rfl
      have e2 : Hid (opT [] false s.data.toList = []) := by show _ = _; unfold opT; rw [e1.out]; rfl
      clear h7
      go_enter Tryd.func39, Tryd.ntmps39
      go_wp2
      go_ret
      exact ⟨by rw [e1.out]; rfl, by rw [e2.out]; exact HL.out, World.grownBy.refl _ _⟩
    | cons a t =>
      obtain ⟨b, off, rfl, hb, hc⟩ := h7 (by simp)
      rw [List.length_cons] at h4 h5 hc
      have k1 : (0 : Int) < ((t.length + 1 : Nat) : Int) := by omega
      have c0 : w.cell? ⟨b, off, none⟩ = some (.string (bs a)) := by
        have := hc 0 (by omega)
        simp only [Nat.add_zero] at this
        exact this
      have H7 := Lib.hid hc
      clear hc h7
      by_cases hq : a = s.data.toList
      · have e1 : Hid (opB (a :: t) false s.data.toList = true) := by show _ = _; unfold opB; simpa using hq
        have e2 : Hid (opT (a :: t) false s.data.toList = t) := by show _ = _; unfold opT; rw [e1.out]; rfl
        have hs : ((bs a).toList == s.toList) = true := by rw [Lib.toList_data, Lib.toList_data, bs_list, hq]; simp
        clear hq
        generalize bs a = A at *
        go_enter Tryd.func39, Tryd.ntmps39
        go_wp2
        all_goals first
          | (go_ret; exact ⟨by rw [e1.out]; rfl, by rw [e2.out]; exact HL.out.set (WdsV.tail hb h5 h6 H7.out (.inl rfl)), set_grown _ _ _ _⟩)
          | (obtain rfl : t = [] := (List.eq_nil_of_length_eq_zero (by omega)); go_ret; exact ⟨by rw [e1.out]; rfl, by rw [e2.out]; exact HL.out.set (WdsV.tail hb h5 h6 H7.out (.inr ⟨rfl, some ⟨b, off, none⟩, by rw [show cap - 1 = 0 by omega]; rfl⟩)), set_grown _ _ _ _⟩)
      · have e1 : Hid (opB (a :: t) false s.data.toList = false) := by show _ = _; unfold opB; simpa using hq
        have e2 : Hid (opT (a :: t) false s.data.toList = a :: t) := by show _ = _; unfold opT; rw [e1.out]; rfl
        have hs : ((bs a).toList == s.toList) = false := by rw [Lib.toList_data, Lib.toList_data, bs_list]; simpa using hq
        clear hq
        generalize bs a = A at *
        go_enter Tryd.func39, Tryd.ntmps39
        go_wp2
        go_ret
        exact ⟨by rw [e1.out]; rfl, by rw [e2.out]; exact HL.out, World.grownBy.refl _ _⟩
set_option maxHeartbeats 1600000 in
/-- Ended, by the line's two cells alone. -/
theorem ended_cell (n k cap : Nat) (o : Option Addr) (x : Bool) (w : World) (h1 : w.cell? ⟨n, 1, none⟩ = some (.bool x)) (h4 : w.cell? ⟨n, 0, none⟩ = some (.slice o k cap)) :
    Calls Tryd.prog 44 #[.pointer (some ⟨n, 0, none⟩)] w fun e w' => e = .returned (.bool (!x && k == 0)) ∧ w' = w := by
  cases x with
  | true =>
    go_enter Tryd.func44, Tryd.ntmps44
    go_wp2
    go_ret
    exact ⟨rfl, rfl⟩
  | false =>
    cases k with
    | zero =>
      go_enter Tryd.func44, Tryd.ntmps44
      go_wp2
      go_ret
      exact ⟨rfl, rfl⟩
    | succ k =>
      have k1 : (((k + 1 : Nat) : Int) == 0) = false := by simp; omega
      go_enter Tryd.func44, Tryd.ntmps44
      go_wp2
      go_ret
      exact ⟨rfl, rfl⟩
theorem empty_len (ws : List (List UInt8)) : ws.isEmpty = (ws.length == 0) := by cases ws <;> rfl
end Go.Proofs.YtkllhockcnokeaaDoor
