/- Texts of curves, as lists of bytes: what is written is read, what is read was written. -/
import Derived.Test.YtkllhockcnokeaaDoorTxP
import Derived.Lib.SplitLaws
namespace Go.Proofs.YtkllhockcnokeaaDoor
open Go.Lib

/-! Split at one byte. -/
def split1 (c : UInt8) : List UInt8 → List (List UInt8)
  | [] => [[]]
  | b :: r => if b = c then [] :: split1 c r else match split1 c r with
    | [] => [[b]]
    | h :: t => (b :: h) :: t
theorem split1_ne (c : UInt8) (l : List UInt8) : ∃ h t, split1 c l = h :: t := by
  cases l with
  | nil => exact ⟨_, _, rfl⟩
  | cons b r =>
    unfold split1
    by_cases h : b = c
    · rw [if_pos h]; exact ⟨_, _, rfl⟩
    · rw [if_neg h]
      cases split1 c r with
      | nil => exact ⟨_, _, rfl⟩
      | cons x t => exact ⟨_, _, rfl⟩
theorem split_one (c : UInt8) (l : List UInt8) : Lib.split l [c] = split1 c l := by
  induction l with
  | nil => rfl
  | cons b r ih =>
    unfold Lib.split at ih ⊢
    by_cases h : b = c
    · subst h
      rw [count_cons_eq, Nat.add_comm 1]
      unfold splitK split1
      have e : index (b :: r) [b] = 0 := by unfold index; simp
      rw [e, if_pos rfl, ← ih]
      simp
    · rw [count_cons_ne b c r h]
      unfold split1
      rw [if_neg h, ← ih]
      cases hk : count r [c] with
      | zero => rfl
      | succ k =>
        have hge := index_ge r [c]
        have hi : index r [c] ≠ -1 := fun e => by rw [count_miss e] at hk; cases hk
        have e : index (b :: r) [c] = index r [c] + 1 := by
          conv => lhs; unfold index
          have : ([c].isPrefixOf (b :: r)) = false := by simp [List.isPrefixOf]; exact fun hh => h hh.symm
          have h3 : (index r [c] == -1) = false := by simpa using hi
          rw [this, h3]; simp
        unfold splitK
        have h3 : (index r [c] == -1) = false := by simpa using hi
        have h4 : (index (b :: r) [c] == -1) = false := by rw [e]; simp; omega
        have h5 : (index r [c] + 1).toNat = (index r [c]).toNat + 1 := by omega
        rw [h3, h4, e, h5]
        simp
def joinW (c : UInt8) (w : List UInt8) (ws : List (List UInt8)) : List UInt8 := w ++ ws.flatMap fun x => c :: x
theorem split_plain {c : UInt8} {w : List UInt8} (h : c ∉ w) : split1 c w = [w] := by
  induction w with
  | nil => rfl
  | cons b r ih =>
    unfold split1
    rw [if_neg (fun e => h (by simp [e])), ih (fun e => h (by simp [e]))]
theorem split_app {c : UInt8} {w s : List UInt8} (h : c ∉ w) : split1 c (w ++ c :: s) = w :: split1 c s := by
  induction w with
  | nil => simp [split1]
  | cons b r ih =>
    show (if b = c then [] :: split1 c (r ++ c :: s) else match split1 c (r ++ c :: s) with
      | [] => [[b]]
      | h :: t => (b :: h) :: t) = _
    rw [if_neg (fun e => h (by simp [e])), ih (fun e => h (by simp [e]))]
theorem split_join {c : UInt8} (w : List UInt8) (ws : List (List UInt8)) (h : c ∉ w) (hs : ∀ x ∈ ws, c ∉ x) : split1 c (joinW c w ws) = w :: ws := by
  induction ws generalizing w with
  | nil => unfold joinW; simp; exact split_plain h
  | cons x t ih =>
    have := ih x (hs x (by simp)) (fun y hy => hs y (by simp [hy]))
    unfold joinW at this ⊢
    rw [List.flatMap_cons, List.cons_append, split_app h, this]
theorem join_split {c : UInt8} {s w : List UInt8} {ws : List (List UInt8)} (h : split1 c s = w :: ws) : s = joinW c w ws := by
  induction s generalizing w ws with
  | nil => unfold split1 at h; injection h with h1 h2; subst h1; subst h2; rfl
  | cons b r ih =>
    obtain ⟨x, t, e⟩ := split1_ne c r
    have := ih e
    unfold split1 at h
    by_cases hb : b = c
    · rw [if_pos hb, e] at h
      injection h with h1 h2
      subst h1 h2
      rw [this, hb]
      unfold joinW
      simp
    · rw [if_neg hb, e] at h
      injection h with h1 h2
      subst h1 h2
      rw [this]
      rfl

/-! Points. -/
def ptW (p : Int × Int) : List UInt8 := decDigits p.1.toNat ++ 58 :: decDigits p.2.toNat
def wdOk (w : List UInt8) : Bool := numOk 9 (cut1 58 w).1 && numOk 9 (cut1 58 w).2.1
def wdV (w : List UInt8) : Int × Int := (val (cut1 58 w).1, val (cut1 58 w).2.1)
theorem pt_show {p : Int × Int} (h0 : 0 ≤ p.1) (h1 : p.1 < 1000000000) (h2 : 0 ≤ p.2) (h3 : p.2 < 1000000000) : wdOk (ptW p) = true ∧ wdV (ptW p) = p := by
  unfold wdOk wdV ptW
  rw [cut1_at (dgs_no (dd_dgs _) (by decide))]
  simp only [dd_val]
  rw [dd_numOk (by decide) (by omega), dd_numOk (by decide) (by omega)]
  refine ⟨rfl, ?_⟩
  rw [Int.toNat_of_nonneg h0, Int.toNat_of_nonneg h2]
theorem pt_read {w : List UInt8} (h : wdOk w = true) : w = ptW (wdV w) := by
  unfold wdOk at h
  unfold wdV ptW
  obtain ⟨h1, h2⟩ := Bool.and_eq_true_iff.1 h
  rcases cut1_spec 58 w with ⟨hc, _⟩ | ⟨a, b, hab, hno, hc⟩
  · rw [hc] at h2; cases h2
  · rw [hc] at h1 h2 ⊢
    have e1 := numOk_back h1
    have e2 := numOk_back h2
    show w = decDigits (val a).toNat ++ 58 :: decDigits (val b).toNat
    rw [← e1, ← e2]; exact hab
theorem ptW_no {c : UInt8} (h1 : isDg c = false) (h2 : c ≠ 58) (p : Int × Int) : c ∉ ptW p := by
  unfold ptW
  intro h
  rcases List.mem_append.1 h with h | h
  · exact dgs_no (dd_dgs _) h1 h
  · rcases List.mem_cons.1 h with h | h
    · exact h2 h
    · exact dgs_no (dd_dgs _) h1 h

/-! Curves. -/
def kw (k : Int) : List UInt8 :=
  if k = 1 then [108, 105, 110, 101, 97, 114] else if k = 2 then [115, 108, 111, 119] else if k = 3 then [102, 97, 115, 116] else if k = 4 then [115, 111, 102, 116] else if k = 5 then [115, 116, 101, 112] else [116, 97, 98, 108, 101]
def kindOf (w : List UInt8) : Int := if w = kw 1 then 1 else if w = kw 2 then 2 else if w = kw 3 then 3 else if w = kw 4 then 4 else if w = kw 5 then 5 else if w = kw 6 then 6 else 0
theorem kindOf_kw {k : Int} (h1 : 1 ≤ k) (h2 : k ≤ 6) : kindOf (kw k) = k := by
  have : k = 1 ∨ k = 2 ∨ k = 3 ∨ k = 4 ∨ k = 5 ∨ k = 6 := by omega
  rcases this with rfl | rfl | rfl | rfl | rfl | rfl <;> decide
theorem kw_kindOf {w : List UInt8} (h : kindOf w ≠ 0) : w = kw (kindOf w) ∧ 1 ≤ kindOf w ∧ kindOf w ≤ 6 := by
  unfold kindOf at h ⊢
  by_cases h1 : w = kw 1
  · rw [if_pos h1]; exact ⟨h1, by decide, by decide⟩
  rw [if_neg h1] at h ⊢
  by_cases h1 : w = kw 2
  · rw [if_pos h1]; exact ⟨h1, by decide, by decide⟩
  rw [if_neg h1] at h ⊢
  by_cases h1 : w = kw 3
  · rw [if_pos h1]; exact ⟨h1, by decide, by decide⟩
  rw [if_neg h1] at h ⊢
  by_cases h1 : w = kw 4
  · rw [if_pos h1]; exact ⟨h1, by decide, by decide⟩
  rw [if_neg h1] at h ⊢
  by_cases h1 : w = kw 5
  · rw [if_pos h1]; exact ⟨h1, by decide, by decide⟩
  rw [if_neg h1] at h ⊢
  by_cases h1 : w = kw 6
  · rw [if_pos h1]; exact ⟨h1, by decide, by decide⟩
  rw [if_neg h1] at h
  exact absurd rfl h
theorem kw_no (k : Int) : (32 : UInt8) ∉ kw k := by
  unfold kw
  repeat (first | (split <;> first | decide | skip) | decide)
def cvText (k : Int) (l : List (Int × Int)) : List UInt8 := joinW 32 (kw k) (l.map ptW)
def cvW (s : List UInt8) : List UInt8 := (split1 32 s).headD []
def cvWs (s : List UInt8) : List (List UInt8) := (split1 32 s).tail
def ppOk (ws : List (List UInt8)) : Bool := ws.all wdOk
def ppV (ws : List (List UInt8)) : List (Int × Int) := ws.map wdV
def cvOk (s : List UInt8) : Bool := decide (kindOf (cvW s) ≠ 0) && (ppOk (cvWs s) && (decide (kindOf (cvW s) = 6) || (cvWs s).isEmpty))
def ptsIn (l : List (Int × Int)) : Prop := ∀ p ∈ l, 0 ≤ p.1 ∧ p.1 < 1000000000 ∧ 0 ≤ p.2 ∧ p.2 < 1000000000
theorem cv_show {k : Int} {l : List (Int × Int)} (h1 : 1 ≤ k) (h2 : k ≤ 6) (h3 : k = 6 ∨ l = []) (h : ptsIn l) : cvOk (cvText k l) = true ∧ kindOf (cvW (cvText k l)) = k ∧ ppV (cvWs (cvText k l)) = l := by
  have e := split_join (c := 32) (kw k) (l.map ptW) (kw_no k) (fun x hx => by
    obtain ⟨p, _, rfl⟩ := List.mem_map.1 hx
    exact ptW_no (by decide) (by decide) p)
  have e1 : cvW (cvText k l) = kw k := by unfold cvW cvText; rw [e]; rfl
  have e2 : cvWs (cvText k l) = l.map ptW := by unfold cvWs cvText; rw [e]; rfl
  have e3 : ppV (l.map ptW) = l := by
    unfold ppV
    rw [List.map_map]
    have : ∀ p ∈ l, (wdV ∘ ptW) p = id p := fun p hp => by
      obtain ⟨a, b, c, d⟩ := h p hp
      exact (pt_show a b c d).2
    rw [List.map_congr_left this, List.map_id]
  have e4 : ppOk (l.map ptW) = true := by
    unfold ppOk
    rw [List.all_map, List.all_eq_true]
    intro p hp
    obtain ⟨a, b, c, d⟩ := h p hp
    exact (pt_show a b c d).1
  refine ⟨?_, by rw [e1, kindOf_kw h1 h2], by rw [e2, e3]⟩
  unfold cvOk
  rw [e1, e2, e4, kindOf_kw h1 h2]
  rcases h3 with h3 | h3
  · subst h3; rfl
  · subst h3; simp; omega
theorem cv_read {s : List UInt8} (h : cvOk s = true) : s = cvText (kindOf (cvW s)) (ppV (cvWs s)) ∧ 1 ≤ kindOf (cvW s) ∧ kindOf (cvW s) ≤ 6 := by
  unfold cvOk at h
  obtain ⟨h1, h⟩ := Bool.and_eq_true_iff.1 h
  obtain ⟨h2, h3⟩ := Bool.and_eq_true_iff.1 h
  obtain ⟨e1, e2, e3⟩ := kw_kindOf (of_decide_eq_true h1)
  refine ⟨?_, e2, e3⟩
  obtain ⟨w, ws, e⟩ := split1_ne 32 s
  have ew : cvW s = w := by unfold cvW; rw [e]; rfl
  have es : cvWs s = ws := by unfold cvWs; rw [e]; rfl
  unfold cvText
  rw [← e1, ew, es]
  have e4 : (ppV ws).map ptW = ws := by
    unfold ppV
    rw [List.map_map]
    rw [es] at h2
    have : ∀ x ∈ ws, (ptW ∘ wdV) x = id x := fun x hx => (pt_read (List.all_eq_true.1 h2 x hx)).symm
    rw [List.map_congr_left this, List.map_id]
  rw [e4]
  exact join_split e
end Go.Proofs.YtkllhockcnokeaaDoor
