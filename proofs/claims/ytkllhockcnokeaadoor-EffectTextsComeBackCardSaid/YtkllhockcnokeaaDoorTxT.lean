/- Texts of times and of levels, as lists of bytes: what is written is read, what is read was written. -/
import Derived.Test.YtkllhockcnokeaaDoorTxP
import Derived.Test.YtkllhockcnokeaaDoorMath
namespace Go.Proofs.YtkllhockcnokeaaDoor
open Go.Lib

/-! Times. -/
def secOk (l : List UInt8) : Bool := match l with
  | [] => false
  | c :: t => decide (48 ≤ (c.toNat : Int)) && decide ((c.toNat : Int) ≤ 53) && (partsOk 9 3 t && decide (partsV 3 t < 10000))
def secV (l : List UInt8) : Int := match l with
  | [] => 0
  | c :: t => ((c.toNat : Int) - 48) * 10000 + partsV 3 t
def tOk (l : List UInt8) : Bool :=
  if (cut1 58 l).2.2 = true then numOk 9 (cut1 58 l).1 && decide (val (cut1 58 l).1 ≠ 0) && decide ((cut1 58 l).1.length ≤ 4) && secOk (cut1 58 l).2.1
  else partsOk 9 3 l && decide (partsV 3 l < 60000)
def tV (l : List UInt8) : Int := if (cut1 58 l).2.2 = true then val (cut1 58 l).1 * 60000 + secV (cut1 58 l).2.1 else partsV 3 l
def showT (n : Nat) : List UInt8 := if n / 60000 = 0 then showD 3 (n % 60000) else decDigits (n / 60000) ++ 58 :: (if n % 60000 < 10000 then 48 :: showD 3 (n % 60000) else showD 3 (n % 60000))

theorem showD_tens (t s : Nat) (h1 : 1 ≤ t) (h2 : t ≤ 9) (h3 : s < 10000) : showD 3 (t * 10000 + s) = UInt8.ofNat (48 + t) :: showD 3 s := by
  unfold showD
  rw [show (10 : Nat) ^ 3 = 1000 from rfl, show (t * 10000 + s) / 1000 = t * 10 + s / 1000 by omega, show (t * 10000 + s) % 1000 = s % 1000 by omega]
  rw [dd_big (u := t * 10 + s / 1000) (by omega), show (t * 10 + s / 1000) / 10 = t by omega, show (t * 10 + s / 1000) % 10 = s / 1000 by omega, dd_small (u := t) (by omega), dd_small (u := s / 1000) (by omega)]
  rfl
theorem showD_no (n : Nat) (c : UInt8) (h1 : isDg c = false) (h2 : c ≠ 46) (p : Nat) : c ∉ showD p n := by
  unfold showD
  intro h
  rcases List.mem_append.1 h with h | h
  · exact dgs_no (dd_dgs _) h1 h
  · by_cases h0 : n % 10 ^ p = 0
    · rw [if_pos h0] at h; simp at h
    · rw [if_neg h0] at h
      rcases List.mem_cons.1 h with h | h
      · exact h2 h
      · obtain ⟨k, e, _⟩ := trim_split (padD p (n % 10 ^ p))
        have hd := padD_dgs p (n % 10 ^ p)
        rw [e] at hd
        exact dgs_no (dgs_app.1 hd).1 h1 h
theorem sec_show (s : Nat) (h : s < 60000) : secOk (if s < 10000 then 48 :: showD 3 s else showD 3 s) = true ∧ secV (if s < 10000 then 48 :: showD 3 s else showD 3 s) = s := by
  by_cases h1 : s < 10000
  · rw [if_pos h1]
    obtain ⟨a, b⟩ := show_read 9 3 s (by decide) (by omega)
    unfold secOk secV
    simp only [a, b]
    have h48 : ((48 : UInt8).toNat : Int) = 48 := rfl
    rw [h48]
    exact ⟨by simp; omega, by omega⟩
  · rw [if_neg h1]
    obtain ⟨t, u, rfl, ht, hu⟩ : ∃ t u, s = t * 10000 + u ∧ 1 ≤ t ∧ u < 10000 := ⟨s / 10000, s % 10000, by omega, by omega, by omega⟩
    rw [showD_tens t u ht (by omega) hu]
    obtain ⟨a, b⟩ := show_read 9 3 u (by decide) (by omega)
    unfold secOk secV
    simp only [a, b]
    rw [ofNat_toNat_48 (by omega)]
    exact ⟨by simp; omega, by omega⟩
/-- A time that is written is read. -/
theorem time_show (n : Nat) (h : n ≤ 36000000) : tOk (showT n) = true ∧ tV (showT n) = n := by
  unfold tOk tV showT
  by_cases h0 : n / 60000 = 0
  · rw [if_pos h0, cut1_no (showD_no _ 58 (by decide) (by decide) 3)]
    obtain ⟨a, b⟩ := show_read 9 3 (n % 60000) (by decide) (by omega)
    simp only [a, b]
    refine ⟨by simp; omega, by simp; omega⟩
  · rw [if_neg h0, cut1_at (dgs_no (dd_dgs _) (by decide))]
    obtain ⟨a, b⟩ := sec_show (n % 60000) (by omega)
    simp only [if_true]
    rw [a, b, dd_val, dd_numOk (by decide) (by omega)]
    have hl : (decDigits (n / 60000)).length ≤ 4 := by rw [decDigits_length]; exact nDigits_lt (by decide) (by omega)
    refine ⟨by simp; exact ⟨by omega, hl⟩, by omega⟩
/-- A time that is read was written so. -/
theorem time_read {l : List UInt8} (h : tOk l = true) : l = showT (tV l).toNat ∧ 0 ≤ tV l := by
  unfold tOk at h
  unfold tV
  rcases cut1_spec 58 l with ⟨hc, _⟩ | ⟨a, b, hab, hno, hc⟩
  · rw [hc] at h ⊢
    simp only [Bool.false_eq_true, if_false] at h ⊢
    obtain ⟨h1, h2⟩ := Bool.and_eq_true_iff.1 h
    have h2 := of_decide_eq_true h2
    obtain ⟨e, h3, _, _⟩ := read_show h1
    refine ⟨?_, h3⟩
    unfold showT
    rw [if_pos (by omega), show (partsV 3 l).toNat % 60000 = (partsV 3 l).toNat by omega]
    exact e
  · rw [hc] at h ⊢
    simp only [if_true] at h ⊢
    obtain ⟨h, h4⟩ := Bool.and_eq_true_iff.1 h
    obtain ⟨h, h3⟩ := Bool.and_eq_true_iff.1 h
    obtain ⟨h1, h2⟩ := Bool.and_eq_true_iff.1 h
    have h2 := of_decide_eq_true h2
    have hb := (numOk_bd h1).1
    have hl := numOk_back h1
    cases b with
    | nil => unfold secOk at h4; cases h4
    | cons c t =>
      unfold secOk at h4
      simp only [Bool.and_eq_true, decide_eq_true_eq] at h4
      obtain ⟨⟨c1, c2⟩, p1, p2⟩ := h4
      obtain ⟨e, p3, _, _⟩ := read_show p1
      show l = showT (val a * 60000 + (((c.toNat : Int) - 48) * 10000 + partsV 3 t)).toNat ∧ 0 ≤ val a * 60000 + (((c.toNat : Int) - 48) * 10000 + partsV 3 t)
      refine ⟨?_, by omega⟩
      obtain ⟨m, hm⟩ : ∃ m : Nat, (m : Int) = val a := ⟨(val a).toNat, by omega⟩
      obtain ⟨u, hu⟩ : ∃ u : Nat, (u : Int) = partsV 3 t := ⟨(partsV 3 t).toNat, by omega⟩
      obtain ⟨d, hd⟩ : ∃ d : Nat, (d : Int) = (c.toNat : Int) - 48 := ⟨((c.toNat : Int) - 48).toNat, by omega⟩
      rw [← hm] at hl h2 ⊢
      rw [← hu] at e p2 ⊢
      rw [← hd]
      have hcd : c = UInt8.ofNat (48 + d) := ofNat_of (by omega) (by omega)
      rw [show ((m : Int) * 60000 + ((d : Int) * 10000 + (u : Int))).toNat = m * 60000 + (d * 10000 + u) by omega]
      unfold showT
      rw [if_neg (by omega), show (m * 60000 + (d * 10000 + u)) / 60000 = m by omega, show (m * 60000 + (d * 10000 + u)) % 60000 = d * 10000 + u by omega]
      rw [hab, hl, e]
      simp only [Int.toNat_natCast]
      by_cases h0 : d = 0
      · subst h0
        rw [if_pos (by omega), hcd]
        simp
      · rw [if_neg (by omega), showD_tens d u (by omega) (by omega) (by omega), ← hcd]

/-! Levels. -/
def lvShow (n : Int) : List UInt8 :=
  if n = 0 then [111, 117, 116] else if n = 65535 then [102, 117, 108, 108]
  else if rnd (rnd n 65535 100 * 100) 10000 65535 = n then decDigits (rnd n 65535 100).toNat ++ [37] else 35 :: decDigits n.toNat
def lvHash (l : List UInt8) : Bool := match l with
  | [] => false
  | c :: t => c == 35 && (numOk 9 t && decide (val t ≤ 65535))
def lvPer (l : List UInt8) : Bool := match l.getLast? with
  | none => false
  | some c => c == 37 && (partsOk 9 2 l.dropLast && decide (partsV 2 l.dropLast ≤ 10000))
def lvOk (l : List UInt8) : Bool := l == [111, 117, 116] || l == [102, 117, 108, 108] || lvHash l || lvPer l
def lvRead (l : List UInt8) : Int :=
  if l = [111, 117, 116] then 0 else if l = [102, 117, 108, 108] then 65535
  else if lvHash l = true then val (l.drop 1) else if lvPer l = true then rnd (partsV 2 l.dropLast) 10000 65535 else 0
theorem dd_ends {u : Nat} {c : UInt8} (h : isDg c = false) (x : List UInt8) : decDigits u ≠ x ++ [c] := by
  intro e
  exact dgs_no (dd_dgs u) h (by rw [e]; simp)
theorem dd_begins {u : Nat} {c : UInt8} (h : isDg c = false) (x y : List UInt8) : decDigits u ++ y ≠ c :: x := by
  intro e
  cases hd : decDigits u with
  | nil => exact dd_ne u hd
  | cons d t =>
    rw [hd] at e
    have : d = c := by injection e
    exact dgs_no (dd_dgs u) h (by rw [hd, this]; simp)
/-- A level that is written is read. -/
theorem level_show (n : Int) (h0 : 0 ≤ n) (h1 : n ≤ 65535) : lvOk (lvShow n) = true ∧ lvRead (lvShow n) = n := by
  unfold lvShow
  by_cases a : n = 0
  · rw [if_pos a, a]; exact ⟨rfl, rfl⟩
  · rw [if_neg a]
    by_cases b : n = 65535
    · rw [if_pos b, b]; exact ⟨rfl, rfl⟩
    · rw [if_neg b]
      by_cases c : rnd (rnd n 65535 100 * 100) 10000 65535 = n
      · rw [if_pos c]
        have p0 : 0 ≤ rnd n 65535 100 := rnd_nonneg (by decide) h0 (by decide)
        have p1 : rnd n 65535 100 ≤ 100 := rnd_le (by decide) h1 (by decide)
        generalize rnd n 65535 100 = p at c p0 p1
        have hne1 : decDigits p.toNat ++ [37] ≠ [111, 117, 116] := dd_begins (by decide) _ _
        have hne2 : decDigits p.toNat ++ [37] ≠ [102, 117, 108, 108] := dd_begins (by decide) _ _
        have hh : lvHash (decDigits p.toNat ++ [37]) = false := by
          cases hd : decDigits p.toNat with
          | nil => rfl
          | cons d t =>
            have : d ≠ 35 := by
              intro e
              exact dgs_no (dd_dgs p.toNat) (c := 35) (by decide) (by rw [hd, e]; simp)
            show (d == 35 && _) = false
            simp [this]
        obtain ⟨r1, r2⟩ := show_read 9 2 (p.toNat * 100) (by decide) (by omega)
        have e : showD 2 (p.toNat * 100) = decDigits p.toNat := by
          unfold showD
          rw [show (10 : Nat) ^ 2 = 100 from rfl, show p.toNat * 100 % 100 = 0 by omega, if_pos rfl, List.append_nil, show p.toNat * 100 / 100 = p.toNat by omega]
        rw [e] at r1 r2
        have hp : lvPer (decDigits p.toNat ++ [37]) = true := by
          unfold lvPer
          simp only [List.getLast?_concat, List.dropLast_concat]
          rw [r1, r2]
          simp; omega
        refine ⟨by unfold lvOk; rw [hp]; simp, ?_⟩
        unfold lvRead
        rw [if_neg hne1, if_neg hne2, hh, hp, if_neg (by decide), if_pos rfl, List.dropLast_concat, r2, show ((p.toNat * 100 : Nat) : Int) = p * 100 by omega]
        exact c
      · rw [if_neg c]
        have hn := dd_numOk (u := n.toNat) (most := 9) (by decide) (by omega)
        have hh : lvHash (35 :: decDigits n.toNat) = true := by
          show (35 == 35 && (numOk 9 (decDigits n.toNat) && decide (val (decDigits n.toNat) ≤ 65535))) = true
          rw [hn, dd_val]
          simp; omega
        refine ⟨by unfold lvOk; rw [hh]; simp, ?_⟩
        unfold lvRead
        rw [if_neg (by simp), if_neg (by simp), hh, if_pos rfl, List.drop_one, List.tail_cons, dd_val]
        omega
end Go.Proofs.YtkllhockcnokeaaDoor
