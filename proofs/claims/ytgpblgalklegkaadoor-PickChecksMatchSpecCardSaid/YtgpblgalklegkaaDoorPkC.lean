/- Parts of selections: what is wrong with one, and with all; the table of the kinds. -/
import Derived.Test.YtgpblgalklegkaaDoorPkA
import Derived.Test.YtgpblgalklegkaaDoorRet
namespace Go.Proofs.YtgpblgalklegkaaDoor
open Go.RowKit Go.Sort

/-- Which fields a kind uses: the greatest From and To, or 0, and how many Args. -/
def shp (k : Int) : Int × Int × Int × Int := if k = 1 then (9999, 9999, 0, 0) else if k = 2 ∨ k = 3 then (999, 0, 0, 0) else if k = 4 then (0, 0, 2, 200) else if k = 5 then (0, 0, 2, 2) else if k = 9 then (9999, 9999, 1, 1) else (0, 0, 1, 1)
def ckS (sF sT l m f t n : Int) : Int := if (sF = 0 ∧ f ≠ 0) ∨ (sT = 0 ∧ t ≠ 0) then 3 else if n < l ∨ m < n then 3 else if (sF ≠ 0 ∧ ¬ (1 ≤ f ∧ f ≤ sF)) ∨ (sT ≠ 0 ∧ ¬ (1 ≤ t ∧ t ≤ sT)) then 1 else 0
def ck1 (p : Pk) : Int := if p.kind < 1 ∨ 9 < p.kind then 4 else ckS (shp p.kind).1 (shp p.kind).2.1 (shp p.kind).2.2.1 (shp p.kind).2.2.2 p.frm p.to p.args.length
/-- The first fault of parts. -/
def ckL : List Pk → Int
  | [] => 0
  | p :: r => if ck1 p ≠ 0 then ck1 p else ckL r
/-- What Check says. -/
def ckP (p : Pk) : Int := if smallP p = true then ckL (preD 12 p) else 2
theorem ckL_at (L : List Pk) (k : Nat) (hk : k < L.length) : ckL (L.drop k) = if ck1 L[k] ≠ 0 then ck1 L[k] else ckL (L.drop (k + 1)) := by
  rw [List.drop_eq_getElem_cons hk]; rfl
theorem ckL_app : ∀ (L M : List Pk), ckL (L ++ M) = if ckL L ≠ 0 then ckL L else ckL M
  | [], M => by simp [ckL]
  | p :: r, M => by
    show (if ck1 p ≠ 0 then ck1 p else ckL (r ++ M)) = if (if ck1 p ≠ 0 then ck1 p else ckL r) ≠ 0 then (if ck1 p ≠ 0 then ck1 p else ckL r) else ckL M
    by_cases h : ck1 p ≠ 0
    · rw [if_pos h, if_pos h, if_pos h]
    · rw [if_neg h, if_neg h, ckL_app r M]
/-- The table of the kinds lies in memory. -/
def ShAt (w : World) : Prop := ∀ k : Nat, 1 ≤ k → k ≤ 9 → w.cell? ⟨1, k * 4, none⟩ = some (.int .i64 (shp k).1) ∧ w.cell? ⟨1, k * 4 + 1, none⟩ = some (.int .i64 (shp k).2.1) ∧ w.cell? ⟨1, k * 4 + 2, none⟩ = some (.int .i64 (shp k).2.2.1) ∧ w.cell? ⟨1, k * 4 + 3, none⟩ = some (.int .i64 (shp k).2.2.2)
theorem ShAt.bl {w w' : World} (h : ShAt w) (g : Bl w w') : ShAt w' := fun k h1 h2 => ⟨g.cell (h k h1 h2).1, g.cell (h k h1 h2).2.1, g.cell (h k h1 h2).2.2.1, g.cell (h k h1 h2).2.2.2⟩

set_option maxHeartbeats 800000 in
theorem within_one (n m : Int) (v : Bool) (h : (decide (1 ≤ n) && decide (n ≤ m)) = v) (w : World) :
    Calls Tryd.prog 54 #[.int .i64 n, .int .i64 m] w fun e w' => e = .returned (.bool v) ∧ w = w' := by
  subst h
  by_cases h1 : 1 ≤ n
  · go_enter Tryd.func54, Tryd.ntmps54
    go_wp2
    go_ret
    simp [h1]
  · have h1 : n < 1 := by omega
    go_enter Tryd.func54, Tryd.ntmps54
    go_wp2
    go_ret
    simp; omega

set_option maxRecDepth 100000 in
set_option maxHeartbeats 6400000 in
theorem part_gen (k : Nat) (f t : Int) (o : Option Addr) (n cap : Nat) (sF sT l m : Int) (w : World) (h1 : 1 ≤ k) (h9 : k ≤ 9)
    (hs : w.cell? ⟨1, k * 4, none⟩ = some (.int .i64 sF) ∧ w.cell? ⟨1, k * 4 + 1, none⟩ = some (.int .i64 sT) ∧ w.cell? ⟨1, k * 4 + 2, none⟩ = some (.int .i64 l) ∧ w.cell? ⟨1, k * 4 + 3, none⟩ = some (.int .i64 m)) :
    Calls Tryd.prog 32 #[.agg #[.int .i64 k, .int .i64 f, .int .i64 t, .slice o n cap]] w fun e w' => e = .returned (.int .i64 (ckS sF sT l m f t n)) ∧ Bl w w' := by
  obtain ⟨s0, s1, s2, s3⟩ := hs
  have hgz : 1 < w.heap.size := World.block_lt_of_cell? _ _ s0
  have z1 : ¬ (k : Int) < 1 := by omega
  have z2 : ¬ (9 : Int) < (k : Int) := by omega
  have z3 : (k : Int) < 10 := by omega
  have z4 : (0 : Int) ≤ (k : Int) := by omega
  by_cases aF : sF = 0
  · skip
    have F1 : (sF == 0) = true := by simpa using aF
    have F2 : (sF != 0) = false := by simpa using aF
    by_cases cF : f = 0
    · have F3 : (f != 0) = false := by simpa using cF
      by_cases aT : sT = 0
      · skip
        have T1 : (sT == 0) = true := by simpa using aT
        have T2 : (sT != 0) = false := by simpa using aT
        by_cases cT : t = 0
        · have T3 : (t != 0) = false := by simpa using cT
          by_cases n1 : (n : Int) < l
          · have w3 : ¬ m < (n : Int) ∨ m < (n : Int) := by omega
            have e : Hid (ckS sF sT l m f t n = 3) := by show _ = _; unfold ckS; (repeat' split) <;> omega
            clear w3 aF cF aT cT
            go_enter Tryd.func32, Tryd.ntmps32
            go_wp2_with fail
            go_returns
            exact ⟨ret_int e.out.symm, ((Bl.refl w).alloc _).alloc _⟩
          · by_cases n2 : m < (n : Int)
            · skip
              have e : Hid (ckS sF sT l m f t n = 3) := by show _ = _; unfold ckS; (repeat' split) <;> omega
              clear aF cF aT cT
              go_enter Tryd.func32, Tryd.ntmps32
              go_wp2_with fail
              go_returns
              exact ⟨ret_int e.out.symm, ((Bl.refl w).alloc _).alloc _⟩
            · skip
              have e : Hid (ckS sF sT l m f t n = 0) := by show _ = _; unfold ckS; (repeat' split) <;> omega
              clear aF cF aT cT
              go_enter Tryd.func32, Tryd.ntmps32
              go_wp2_with fail
              go_returns
              exact ⟨ret_int e.out.symm, ((Bl.refl w).alloc _).alloc _⟩
        · skip
          have T3 : (t != 0) = true := by simpa using cT
          have e : Hid (ckS sF sT l m f t n = 3) := by show _ = _; unfold ckS; (repeat' split) <;> omega
          clear aF cF aT cT
          go_enter Tryd.func32, Tryd.ntmps32
          go_wp2_with fail
          go_returns
          exact ⟨ret_int e.out.symm, ((Bl.refl w).alloc _).alloc _⟩
      · skip
        have T1 : (sT == 0) = false := by simpa using aT
        have T2 : (sT != 0) = true := by simpa using aT
        by_cases n1 : (n : Int) < l
        · have w3 : ¬ m < (n : Int) ∨ m < (n : Int) := by omega
          have e : Hid (ckS sF sT l m f t n = 3) := by show _ = _; unfold ckS; (repeat' split) <;> omega
          clear w3 aF cF aT
          go_enter Tryd.func32, Tryd.ntmps32
          go_wp2_with fail
          go_returns
          exact ⟨ret_int e.out.symm, ((Bl.refl w).alloc _).alloc _⟩
        · by_cases n2 : m < (n : Int)
          · skip
            have e : Hid (ckS sF sT l m f t n = 3) := by show _ = _; unfold ckS; (repeat' split) <;> omega
            clear aF cF aT
            go_enter Tryd.func32, Tryd.ntmps32
            go_wp2_with fail
            go_returns
            exact ⟨ret_int e.out.symm, ((Bl.refl w).alloc _).alloc _⟩
          · skip
            by_cases rT : 1 ≤ t ∧ t ≤ sT
            · have HT := Lib.hid (fun w' => within_one t sT true (by simp [rT.1, rT.2]) w')
              have e : Hid (ckS sF sT l m f t n = 0) := by show _ = _; unfold ckS; (repeat' split) <;> omega
              clear aF cF aT rT
              go_enter Tryd.func32, Tryd.ntmps32
              go_wp2_with fail
              refine (HT.out _).mono ?_
              rintro e' w1 ⟨rfl, rfl⟩
              go_wp2_with fail
              go_returns
              exact ⟨ret_int e.out.symm, ((Bl.refl w).alloc _).alloc _⟩
            · have HT := Lib.hid (fun w' => within_one t sT false (by rw [Bool.eq_false_iff]; intro hh; simp only [Bool.and_eq_true, decide_eq_true_eq] at hh; exact rT hh) w')
              have e : Hid (ckS sF sT l m f t n = 1) := by show _ = _; unfold ckS; (repeat' split) <;> omega
              clear aF cF aT rT
              go_enter Tryd.func32, Tryd.ntmps32
              go_wp2_with fail
              refine (HT.out _).mono ?_
              rintro e' w1 ⟨rfl, rfl⟩
              go_wp2_with fail
              go_returns
              exact ⟨ret_int e.out.symm, ((Bl.refl w).alloc _).alloc _⟩
    · skip
      have F3 : (f != 0) = true := by simpa using cF
      have e : Hid (ckS sF sT l m f t n = 3) := by show _ = _; unfold ckS; (repeat' split) <;> omega
      clear aF cF
      go_enter Tryd.func32, Tryd.ntmps32
      go_wp2_with fail
      go_returns
      exact ⟨ret_int e.out.symm, ((Bl.refl w).alloc _).alloc _⟩
  · skip
    have F1 : (sF == 0) = false := by simpa using aF
    have F2 : (sF != 0) = true := by simpa using aF
    by_cases aT : sT = 0
    · skip
      have T1 : (sT == 0) = true := by simpa using aT
      have T2 : (sT != 0) = false := by simpa using aT
      by_cases cT : t = 0
      · have T3 : (t != 0) = false := by simpa using cT
        by_cases n1 : (n : Int) < l
        · have w3 : ¬ m < (n : Int) ∨ m < (n : Int) := by omega
          have e : Hid (ckS sF sT l m f t n = 3) := by show _ = _; unfold ckS; (repeat' split) <;> omega
          clear w3 aF aT cT
          go_enter Tryd.func32, Tryd.ntmps32
          go_wp2_with fail
          go_returns
          exact ⟨ret_int e.out.symm, ((Bl.refl w).alloc _).alloc _⟩
        · by_cases n2 : m < (n : Int)
          · skip
            have e : Hid (ckS sF sT l m f t n = 3) := by show _ = _; unfold ckS; (repeat' split) <;> omega
            clear aF aT cT
            go_enter Tryd.func32, Tryd.ntmps32
            go_wp2_with fail
            go_returns
            exact ⟨ret_int e.out.symm, ((Bl.refl w).alloc _).alloc _⟩
          · skip
            by_cases rF : 1 ≤ f ∧ f ≤ sF
            · have HF := Lib.hid (fun w' => within_one f sF true (by simp [rF.1, rF.2]) w')
              have e : Hid (ckS sF sT l m f t n = 0) := by show _ = _; unfold ckS; (repeat' split) <;> omega
              clear aF aT cT rF
              go_enter Tryd.func32, Tryd.ntmps32
              go_wp2_with fail
              refine (HF.out _).mono ?_
              rintro e' w1 ⟨rfl, rfl⟩
              go_wp2_with fail
              go_returns
              exact ⟨ret_int e.out.symm, ((Bl.refl w).alloc _).alloc _⟩
            · have HF := Lib.hid (fun w' => within_one f sF false (by rw [Bool.eq_false_iff]; intro hh; simp only [Bool.and_eq_true, decide_eq_true_eq] at hh; exact rF hh) w')
              have e : Hid (ckS sF sT l m f t n = 1) := by show _ = _; unfold ckS; (repeat' split) <;> omega
              clear aF aT cT rF
              go_enter Tryd.func32, Tryd.ntmps32
              go_wp2_with fail
              refine (HF.out _).mono ?_
              rintro e' w1 ⟨rfl, rfl⟩
              go_wp2_with fail
              go_returns
              exact ⟨ret_int e.out.symm, ((Bl.refl w).alloc _).alloc _⟩
      · skip
        have T3 : (t != 0) = true := by simpa using cT
        have e : Hid (ckS sF sT l m f t n = 3) := by show _ = _; unfold ckS; (repeat' split) <;> omega
        clear aF aT cT
        go_enter Tryd.func32, Tryd.ntmps32
        go_wp2_with fail
        go_returns
        exact ⟨ret_int e.out.symm, ((Bl.refl w).alloc _).alloc _⟩
    · skip
      have T1 : (sT == 0) = false := by simpa using aT
      have T2 : (sT != 0) = true := by simpa using aT
      by_cases n1 : (n : Int) < l
      · have w3 : ¬ m < (n : Int) ∨ m < (n : Int) := by omega
        have e : Hid (ckS sF sT l m f t n = 3) := by show _ = _; unfold ckS; (repeat' split) <;> omega
        clear w3 aF aT
        go_enter Tryd.func32, Tryd.ntmps32
        go_wp2_with fail
        go_returns
        exact ⟨ret_int e.out.symm, ((Bl.refl w).alloc _).alloc _⟩
      · by_cases n2 : m < (n : Int)
        · skip
          have e : Hid (ckS sF sT l m f t n = 3) := by show _ = _; unfold ckS; (repeat' split) <;> omega
          clear aF aT
          go_enter Tryd.func32, Tryd.ntmps32
          go_wp2_with fail
          go_returns
          exact ⟨ret_int e.out.symm, ((Bl.refl w).alloc _).alloc _⟩
        · skip
          by_cases rF : 1 ≤ f ∧ f ≤ sF
          · have HF := Lib.hid (fun w' => within_one f sF true (by simp [rF.1, rF.2]) w')
            by_cases rT : 1 ≤ t ∧ t ≤ sT
            · have HT := Lib.hid (fun w' => within_one t sT true (by simp [rT.1, rT.2]) w')
              have e : Hid (ckS sF sT l m f t n = 0) := by show _ = _; unfold ckS; (repeat' split) <;> omega
              clear aF aT rT rF
              go_enter Tryd.func32, Tryd.ntmps32
              go_wp2_with fail
              refine (HF.out _).mono ?_
              rintro e' w1 ⟨rfl, rfl⟩
              go_wp2_with fail
              refine (HT.out _).mono ?_
              rintro e' w1 ⟨rfl, rfl⟩
              go_wp2_with fail
              go_returns
              exact ⟨ret_int e.out.symm, ((Bl.refl w).alloc _).alloc _⟩
            · have HT := Lib.hid (fun w' => within_one t sT false (by rw [Bool.eq_false_iff]; intro hh; simp only [Bool.and_eq_true, decide_eq_true_eq] at hh; exact rT hh) w')
              have e : Hid (ckS sF sT l m f t n = 1) := by show _ = _; unfold ckS; (repeat' split) <;> omega
              clear aF aT rT rF
              go_enter Tryd.func32, Tryd.ntmps32
              go_wp2_with fail
              refine (HF.out _).mono ?_
              rintro e' w1 ⟨rfl, rfl⟩
              go_wp2_with fail
              refine (HT.out _).mono ?_
              rintro e' w1 ⟨rfl, rfl⟩
              go_wp2_with fail
              go_returns
              exact ⟨ret_int e.out.symm, ((Bl.refl w).alloc _).alloc _⟩
          · have HF := Lib.hid (fun w' => within_one f sF false (by rw [Bool.eq_false_iff]; intro hh; simp only [Bool.and_eq_true, decide_eq_true_eq] at hh; exact rF hh) w')
            have e : Hid (ckS sF sT l m f t n = 1) := by show _ = _; unfold ckS; (repeat' split) <;> omega
            clear aF aT rF
            go_enter Tryd.func32, Tryd.ntmps32
            go_wp2_with fail
            refine (HF.out _).mono ?_
            rintro e' w1 ⟨rfl, rfl⟩
            go_wp2_with fail
            go_returns
            exact ⟨ret_int e.out.symm, ((Bl.refl w).alloc _).alloc _⟩

/-- checkPart of the program. -/
theorem checkPart_any (p : Pk) (sv : Value) (w : World) (hsv : ∃ o cap, sv = .slice o p.args.length cap) (hs : ShAt w) :
    Calls Tryd.prog 32 #[.agg #[.int .i64 p.kind, .int .i64 p.frm, .int .i64 p.to, sv]] w fun e w' => e = .returned (.int .i64 (ck1 p)) ∧ Bl w w' := by
  obtain ⟨o, cap, rfl⟩ := hsv
  unfold ck1
  by_cases h1 : p.kind < 1
  · rw [if_pos (Or.inl h1)]
    generalize p.kind = kd at *
    generalize p.frm = f
    generalize p.to = t
    go_enter Tryd.func32, Tryd.ntmps32
    go_wp2_with fail
    go_returns
    exact ⟨rfl, (Bl.refl w).alloc _⟩
  · by_cases h9 : 9 < p.kind
    · rw [if_pos (Or.inr h9)]
      generalize p.kind = kd at *
      generalize p.frm = f
      generalize p.to = t
      go_enter Tryd.func32, Tryd.ntmps32
      go_wp2_with fail
      go_returns
      exact ⟨rfl, (Bl.refl w).alloc _⟩
    · rw [if_neg (by omega)]
      obtain ⟨k, hk⟩ : ∃ k : Nat, p.kind = k := ⟨p.kind.toNat, by omega⟩
      rw [hk]
      exact part_gen k p.frm p.to o p.args.length cap _ _ _ _ w (by omega) (by omega) (hs k (by omega) (by omega))
end Go.Proofs.YtgpblgalklegkaaDoor
