/- Effects: how they lie in memory, and what the check says of them. -/
import Derived.Test.YtkllhockcnokeaaDoorBl
import Derived.Test.YtkllhockcnokeaaDoorLevI
namespace Go.Proofs.YtkllhockcnokeaaDoor
open Go.RowKit

/-- A step of an effect. -/
structure Stp where
  lv : Int
  ho : Int
  fa : Int
/-- An effect. -/
structure Eff where
  frm : Int
  lo : Int
  hi : Int
  cyc : Int
  wid : Int
  spr : Int
  bk : Bool
  rl : Bool
  st : List Stp

/-- The cells of a step. -/
def CelS (w : World) (b off : Nat) (e : Stp) : Prop := w.cell? ⟨b, off, none⟩ = some (.int .i64 e.lv) ∧ w.cell? ⟨b, off + 1, none⟩ = some (.int .i64 e.ho) ∧ w.cell? ⟨b, off + 2, none⟩ = some (.int .i64 e.fa)
theorem CelS.bl {w w' : World} {b off : Nat} {e : Stp} (h : CelS w b off e) (g : Bl w w') : CelS w' b off e := ⟨g.cell h.1, g.cell h.2.1, g.cell h.2.2⟩
def StpsAt (w : World) (b off : Nat) (L : List Stp) : Prop := ∀ i (hi : i < L.length), CelS w b (off + i * 3) L[i]
theorem StpsAt.bl {w w' : World} {b off : Nat} {L : List Stp} (h : StpsAt w b off L) (g : Bl w w') : StpsAt w' b off L := fun i hi => (h i hi).bl g
/-- v reads as the steps L. -/
def StpVal (w : World) (v : Value) (L : List Stp) : Prop := ∃ (o : Option Addr) (cap : Nat), v = .slice o L.length cap ∧ (L.length ≤ cap ∧ cap ≤ 9223372036854775807) ∧ (0 < L.length → ∃ b off, o = some ⟨b, off, none⟩ ∧ StpsAt w b off L)
theorem StpVal.bl {w w' : World} {v : Value} {L : List Stp} (h : StpVal w v L) (g : Bl w w') : StpVal w' v L := by
  obtain ⟨o, cap, h1, h2, h3⟩ := h
  exact ⟨o, cap, h1, h2, fun hp => by obtain ⟨b, off, h4, h5⟩ := h3 hp; exact ⟨b, off, h4, h5.bl g⟩⟩
/-- The effect, as it is handed over, with its steps at v. -/
def effV (e : Eff) (v : Value) : Value := .agg #[.int .i64 e.frm, .int .i64 e.lo, .int .i64 e.hi, .int .i64 e.cyc, .int .i64 e.wid, .int .i64 e.spr, .bool e.bk, .bool e.rl, v]

/-- A step's numbers are within their bounds. -/
def stpOk (x : Stp) : Bool := isLev x.lv && decide (0 ≤ x.ho ∧ x.ho ≤ 3600000 ∧ 0 ≤ x.fa ∧ x.fa ≤ 3600000)
theorem stpOk_iff {x : Stp} : stpOk x = true ↔ (0 ≤ x.lv ∧ x.lv ≤ 65535) ∧ 0 ≤ x.ho ∧ x.ho ≤ 3600000 ∧ 0 ≤ x.fa ∧ x.fa ≤ 3600000 := by
  unfold stpOk; rw [Bool.and_eq_true, isLev_iff, decide_eq_true_iff]
/-- The sum of all times of steps. -/
def sumS : List Stp → Int
  | [] => 0
  | x :: t => x.ho + x.fa + sumS t
theorem sumS_app (l m : List Stp) : sumS (l ++ m) = sumS l + sumS m := by
  induction l with
  | nil => simp [sumS]
  | cons x t ih => rw [List.cons_append, sumS, sumS, ih]; omega
theorem sumS_bd {l : List Stp} (h : l.all stpOk = true) : 0 ≤ sumS l ∧ sumS l ≤ 7200000 * l.length := by
  induction l with
  | nil => exact ⟨by decide, by decide⟩
  | cons x t ih =>
    rw [List.all_cons, Bool.and_eq_true] at h
    have h1 := stpOk_iff.1 h.1
    have h2 := ih h.2
    rw [sumS, List.length_cons]
    omega
theorem sumS_take (L : List Stp) (k : Nat) (h : k < L.length) : sumS (L.take (k + 1)) = sumS (L.take k) + (L[k].ho + L[k].fa) := by
  rw [List.take_succ_eq_append_getElem h, sumS_app]
  show _ + (_ + _ + 0) = _
  omega
/-- Times of steps that are ints of any size: each is between these bounds. -/
def stW (x : Stp) : Prop := (-9223372036854775808 ≤ x.lv ∧ x.lv ≤ 9223372036854775807) ∧ (-9223372036854775808 ≤ x.ho ∧ x.ho ≤ 9223372036854775807) ∧ (-9223372036854775808 ≤ x.fa ∧ x.fa ≤ 9223372036854775807)
/-- The cycle of an effect. -/
def cycE (e : Eff) : Int := if e.frm = 7 then sumS e.st else e.cyc
/-- What is wrong with steps. -/
def ckSt (l : List Stp) : Int :=
  if l.length = 0 then 8 else if 50 < l.length then 2 else if l.all stpOk = false then 1 else if sumS l < 1 ∨ 3600000 < sumS l then 1 else 0
/-- What is wrong with an effect. -/
def ckE (e : Eff) : Int :=
  if e.frm < 1 ∨ 7 < e.frm then 4
  else if (e.frm = 7 ∧ e.cyc ≠ 0) ∨ (e.frm ≠ 4 ∧ e.wid ≠ 0) ∨ (e.frm ≠ 7 ∧ 0 < e.st.length) then 3
  else if e.lo < 0 ∨ 65535 < e.lo ∨ e.hi < 0 ∨ 65535 < e.hi ∨ e.hi < e.lo then 1
  else if (e.frm ≠ 7 ∧ (e.cyc < 1 ∨ 3600000 < e.cyc)) ∨ e.wid < 0 ∨ 1000 < e.wid ∨ e.spr < -10000 ∨ 10000 < e.spr then 1
  else if e.frm = 7 then ckSt e.st else 0
/-- An effect that is right. -/
theorem ckE_ok {e : Eff} (h : ckE e = 0) : (1 ≤ e.frm ∧ e.frm ≤ 7) ∧ (0 ≤ e.lo ∧ e.lo ≤ e.hi ∧ e.hi ≤ 65535) ∧ (0 ≤ e.wid ∧ e.wid ≤ 1000) ∧ (-10000 ≤ e.spr ∧ e.spr ≤ 10000) ∧ (1 ≤ cycE e ∧ cycE e ≤ 3600000) ∧
    (e.frm ≠ 4 → e.wid = 0) ∧ (e.frm = 7 → e.cyc = 0 ∧ 0 < e.st.length ∧ e.st.length ≤ 50 ∧ e.st.all stpOk = true) ∧ (e.frm ≠ 7 → e.st = []) := by
  unfold ckE at h
  split at h; · omega
  split at h; · omega
  split at h; · omega
  split at h; · omega
  rename_i h1 h2 h3 h4
  unfold cycE
  by_cases h7 : e.frm = 7
  · rw [if_pos h7] at h ⊢
    unfold ckSt at h
    split at h; · omega
    split at h; · omega
    split at h; · omega
    split at h; · omega
    rename_i h5 h6 h8 h9
    refine ⟨by omega, by omega, by omega, by omega, by omega, by omega, fun _ => ⟨by omega, by omega, by omega, by simpa using h8⟩, fun h => absurd h7 h⟩
  · rw [if_neg h7] at h ⊢
    refine ⟨by omega, by omega, by omega, by omega, by omega, by omega, fun h => absurd h h7, fun _ => List.eq_nil_of_length_eq_zero (by omega)⟩
end Go.Proofs.YtkllhockcnokeaaDoor
