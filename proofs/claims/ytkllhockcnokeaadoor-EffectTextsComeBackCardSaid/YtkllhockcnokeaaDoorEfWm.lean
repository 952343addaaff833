/- The words of an effect's text: plain mathematics, no program in it. -/
import Derived.Test.YtkllhockcnokeaaDoorEfT
import Derived.Test.YtkllhockcnokeaaDoorDecD
import Derived.Test.YtkllhockcnokeaaDoorTxC
namespace Go.Proofs.YtkllhockcnokeaaDoor
open Go.RowKit Go.Lib

/-- A row of words, each with a blank ahead. -/
def sp (ws : List (List UInt8)) : List UInt8 := ws.flatMap fun a => 32 :: a
theorem sp_app (a b : List (List UInt8)) : sp (a ++ b) = sp a ++ sp b := List.flatMap_append
theorem spl_none : ∀ (a : List UInt8), (32 : UInt8) ∉ a → split1 32 a = [a]
  | [], _ => rfl
  | x :: r, h => by
    have hx : ¬ x = 32 := fun e => h (by rw [e]; simp)
    have := spl_none r (fun hm => h (by simp [hm]))
    show (if x = 32 then [] :: split1 32 r else _) = _
    rw [if_neg hx, this]
theorem spl_one (a r : List UInt8) (h : (32 : UInt8) ∉ a) : split1 32 (a ++ 32 :: r) = a :: split1 32 r := by
  induction a with
  | nil => rfl
  | cons x t ih =>
    have hx : ¬ x = 32 := fun e => h (by rw [e]; simp)
    have := ih (fun hm => h (by simp [hm]))
    have e : split1 32 (x :: t ++ 32 :: r) = (match split1 32 (t ++ 32 :: r) with
      | [] => [[x]]
      | h :: t => (x :: h) :: t) := if_neg hx
    rw [e, this]
theorem spl_sp (a : List UInt8) (ws : List (List UInt8)) (h0 : (32 : UInt8) ∉ a) (h : ∀ x ∈ ws, (32 : UInt8) ∉ x) : split1 32 (a ++ sp ws) = a :: ws := by
  induction ws generalizing a with
  | nil => show split1 32 (a ++ []) = _; rw [List.append_nil]; exact spl_none a h0
  | cons b t ih =>
    show split1 32 (a ++ (32 :: b ++ sp t)) = _
    rw [List.cons_append, spl_one _ _ h0, ih b (h b (by simp)) (fun x hx => h x (by simp [hx]))]


/-! No blank and no colon in numbers and levels. -/
theorem itoa_no (n : Int) {c : UInt8} (hc : isDg c = false) (h45 : c ≠ 45) : c ∉ Lib.itoa n := by
  unfold Lib.itoa
  split
  · intro h
    rcases List.mem_cons.1 h with h | h
    · exact h45 h
    · exact dgs_no (dd_dgs _) hc h
  · exact dgs_no (dd_dgs _) hc
theorem lvShow_no (n : Int) {c : UInt8} (hc : isDg c = false) (h : c = 32 ∨ c = 58) : c ∉ lvShow n := by
  unfold lvShow
  split
  · rcases h with rfl | rfl <;> decide
  split
  · rcases h with rfl | rfl <;> decide
  split
  · intro hm
    rcases List.mem_append.1 hm with hm | hm
    · exact dgs_no (dd_dgs _) hc hm
    · rcases h with rfl | rfl <;> (revert hm; decide)
  · intro hm
    rcases List.mem_cons.1 hm with hm | hm
    · rcases h with rfl | rfl <;> (revert hm; decide)
    · exact dgs_no (dd_dgs _) hc hm
theorem fW_no (k : Nat) : (32 : UInt8) ∉ fW k := by
  unfold fW; (repeat' split) <;> decide

/-! The words. -/
def wFrom : List UInt8 := [102, 114, 111, 109]
def wTo : List UInt8 := [116, 111]
def wCycle : List UInt8 := [99, 121, 99, 108, 101]
def wWidth : List UInt8 := [119, 105, 100, 116, 104]
def wSpread : List UInt8 := [115, 112, 114, 101, 97, 100]
def wBack : List UInt8 := [98, 97, 99, 107]
def wRel : List UInt8 := [114, 101, 108, 97, 116, 105, 118, 101]
def stWd (x : Stp) : List UInt8 := lvShow x.lv ++ [58] ++ Lib.itoa x.ho ++ [58] ++ Lib.itoa x.fa
/-- The words from the steps on; from `relative` on; from `back` on; from `spread` on; from `width` on; from `cycle` on. -/
def eW6 (e : Eff) : List (List UInt8) := e.st.map stWd
def eW5 (e : Eff) : List (List UInt8) := (if e.rl = true then [wRel] else []) ++ eW6 e
def eW4 (e : Eff) : List (List UInt8) := (if e.bk = true then [wBack] else []) ++ eW5 e
def eW3 (e : Eff) : List (List UInt8) := (if e.spr = 0 then [] else [wSpread, Lib.itoa e.spr]) ++ eW4 e
def eW2 (e : Eff) : List (List UInt8) := (if e.frm = 4 then [wWidth, Lib.itoa e.wid] else []) ++ eW3 e
def eW1 (e : Eff) : List (List UInt8) := (if e.frm = 7 then [] else [wCycle, Lib.itoa e.cyc]) ++ eW2 e
def eW0 (e : Eff) : List (List UInt8) := [wFrom, lvShow e.lo, wTo, lvShow e.hi] ++ eW1 e
theorem sp_steps (l : List Stp) : sp (l.map stWd) = l.flatMap efStp := by
  induction l with
  | nil => rfl
  | cons x t ih =>
    show 32 :: stWd x ++ sp (t.map stWd) = efStp x ++ t.flatMap efStp
    rw [ih]; rfl
theorem efTxt_words (e : Eff) : efTxt e = fW e.frm.toNat ++ sp (eW0 e) := by
  have h6 : sp (eW6 e) = e.st.flatMap efStp := sp_steps e.st
  have h5 : sp (eW5 e) = efRl e ++ e.st.flatMap efStp := by
    unfold eW5 efRl; rw [sp_app, h6]; congr 1; split <;> rfl
  have h4 : sp (eW4 e) = efBk e ++ sp (eW5 e) := by
    unfold eW4 efBk; rw [sp_app]; congr 1; split <;> rfl
  have h3 : sp (eW3 e) = efSpr e ++ sp (eW4 e) := by
    unfold eW3 efSpr; rw [sp_app]; congr 1; split
    · rfl
    · show 32 :: wSpread ++ (32 :: Lib.itoa e.spr ++ []) = _; rw [List.append_nil]; rfl
  have h2 : sp (eW2 e) = efWid e ++ sp (eW3 e) := by
    unfold eW2 efWid; rw [sp_app]; congr 1; split
    · show 32 :: wWidth ++ (32 :: Lib.itoa e.wid ++ []) = _; rw [List.append_nil]; rfl
    · rfl
  have h1 : sp (eW1 e) = efCyc e ++ sp (eW2 e) := by
    unfold eW1 efCyc; rw [sp_app]; congr 1; split
    · rfl
    · show 32 :: wCycle ++ (32 :: Lib.itoa e.cyc ++ []) = _; rw [List.append_nil]; rfl
  have h0 : sp (eW0 e) = efFrom ++ lvShow e.lo ++ efTo ++ lvShow e.hi ++ sp (eW1 e) := by
    unfold eW0; rw [sp_app]; congr 1
    show 32 :: wFrom ++ (32 :: lvShow e.lo ++ (32 :: wTo ++ (32 :: lvShow e.hi ++ []))) = _
    rw [List.append_nil]
    show efFrom ++ (lvShow e.lo ++ (efTo ++ lvShow e.hi)) = _
    simp only [List.append_assoc]
  rw [h0, h1, h2, h3, h4, h5]
  unfold efTxt efT5 efT4 efT3 efT2 efT1 efT0
  simp only [List.append_assoc]
theorem words_no (e : Eff) : ∀ x ∈ eW0 e, (32 : UInt8) ∉ x := by
  have hi : ∀ n, (32 : UInt8) ∉ Lib.itoa n := fun n => itoa_no n (by decide) (by decide)
  have hl : ∀ n, (32 : UInt8) ∉ lvShow n := fun n => lvShow_no n (by decide) (.inl rfl)
  have hs : ∀ x : Stp, (32 : UInt8) ∉ stWd x := by
    intro x hm
    unfold stWd at hm
    simp only [List.mem_append] at hm
    rcases hm with (((hm | hm) | hm) | hm) | hm
    · exact hl _ hm
    · revert hm; decide
    · exact hi _ hm
    · revert hm; decide
    · exact hi _ hm
  intro x hx
  unfold eW0 eW1 eW2 eW3 eW4 eW5 eW6 at hx
  simp only [List.mem_append, List.mem_map] at hx
  rcases hx with hx | hx | hx | hx | hx | hx | ⟨y, _, rfl⟩
  · simp only [List.mem_cons, List.not_mem_nil, or_false] at hx
    rcases hx with rfl | rfl | rfl | rfl
    · decide
    · exact hl _
    · decide
    · exact hl _
  · split at hx
    · cases hx
    · simp only [List.mem_cons, List.not_mem_nil, or_false] at hx
      rcases hx with rfl | rfl
      · decide
      · exact hi _
  · split at hx
    · simp only [List.mem_cons, List.not_mem_nil, or_false] at hx
      rcases hx with rfl | rfl
      · decide
      · exact hi _
    · cases hx
  · split at hx
    · cases hx
    · simp only [List.mem_cons, List.not_mem_nil, or_false] at hx
      rcases hx with rfl | rfl
      · decide
      · exact hi _
  · split at hx
    · simp only [List.mem_cons, List.not_mem_nil, or_false] at hx
      subst hx; decide
    · cases hx
  · split at hx
    · simp only [List.mem_cons, List.not_mem_nil, or_false] at hx
      subst hx; decide
    · cases hx
  · exact hs y
/-- The words of an effect's text. -/
theorem split_eff (e : Eff) : split1 32 (efTxt e) = fW e.frm.toNat :: eW0 e := by
  rw [efTxt_words]
  exact spl_sp _ _ (fW_no _) (words_no e)

/-! Numbers that are read. -/
theorem dd_val9 {n : Int} (h0 : 0 ≤ n) (h1 : n ≤ 999999999) : numOk 9 (decDigits n.toNat) = true ∧ val (decDigits n.toNat) = n := by
  refine ⟨dd_numOk (by decide) (by omega), ?_⟩
  rw [dd_val]; omega
theorem itoa_pos {n : Int} (h : 0 ≤ n) : Lib.itoa n = decDigits n.toNat := by unfold Lib.itoa; rw [if_neg (by omega)]
theorem itoa_neg' {n : Int} (h : n < 0) : Lib.itoa n = 45 :: decDigits n.natAbs := by unfold Lib.itoa; rw [if_pos h]
theorem cut_step (x : Stp) : cut1 58 (stWd x) = (lvShow x.lv, Lib.itoa x.ho ++ 58 :: Lib.itoa x.fa, true) := by
  have : stWd x = lvShow x.lv ++ 58 :: (Lib.itoa x.ho ++ 58 :: Lib.itoa x.fa) := by
    unfold stWd; simp only [List.append_assoc]; rfl
  rw [this]
  exact cut1_at (lvShow_no _ (by decide) (.inr rfl))
theorem cut_times (x : Stp) : cut1 58 (Lib.itoa x.ho ++ 58 :: Lib.itoa x.fa) = (Lib.itoa x.ho, Lib.itoa x.fa, true) := cut1_at (itoa_no _ (by decide) (by decide))
theorem dd_first (u : Nat) : (decDigits u).head? ≠ some 45 := by
  intro h
  have : (45 : UInt8) ∈ decDigits u := by
    cases hd : decDigits u with
    | nil => rw [hd] at h; cases h
    | cons a t => rw [hd] at h; simp at h; rw [h]; simp
  exact dgs_no (dd_dgs u) (by decide) this
end Go.Proofs.YtkllhockcnokeaaDoor
