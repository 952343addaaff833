/- Texts of selections, in plain lists of bytes. -/
import Derived.Test.YtgpblgalklegkaaDoorPkS
import Derived.Test.YtgpblgalklegkaaDoorItoa
import Derived.Lib.Join
namespace Go.Proofs.YtgpblgalklegkaaDoor
open Go.RowKit Go.Lib

def numT (n : Int) : List UInt8 := decDigits n.toNat
def paren (l : List UInt8) : List UInt8 := 40 :: (l ++ [41])
/-- Whether brackets stand around the Arg number i. -/
def hasBr (kind : Int) (i : Nat) (a : Int) : Bool := if a ≠ 4 ∧ a ≠ 5 then false else if i = 0 ∧ kind = 5 then false else if i = 0 ∧ kind = 4 then decide (a = 4) else true
def argT (T : Pk → List UInt8) (kind : Int) (i : Nat) (a : Pk) : List UInt8 := if hasBr kind i a.kind = true then paren (T a) else T a
def argsT (T : Pk → List UInt8) (kind : Int) (l : List Pk) : List (List UInt8) := l.mapIdx fun i a => argT T kind i a
/-- The words with which texts begin. -/
def kWord (k : Int) : List UInt8 := if k = 2 then [103, 114, 111, 117, 112] else if k = 3 then [112, 114, 101, 115, 101, 116] else if k = 6 then [111, 100, 100] else if k = 7 then [101, 118, 101, 110] else if k = 8 then [98, 97, 99, 107] else if k = 9 then [101, 118, 101, 114, 121] else []
/-- The text of a selection. -/
def txt : Nat → Pk → List UInt8
  | 0, _ => []
  | d + 1, p =>
    if p.kind = 1 then (if p.frm = p.to then numT p.frm else numT p.frm ++ [32, 116, 104, 114, 117, 32] ++ numT p.to)
    else if p.kind = 2 ∨ p.kind = 3 then kWord p.kind ++ [32] ++ numT p.frm
    else if p.kind = 4 then join (argsT (txt d) p.kind p.args) [32, 43, 32]
    else if p.kind = 5 then join (argsT (txt d) p.kind p.args) [32, 45, 32]
    else if p.kind = 9 then kWord 9 ++ [32] ++ numT p.frm ++ [32, 102, 114, 111, 109, 32] ++ numT p.to ++ [32] ++ join (argsT (txt d) p.kind p.args) []
    else kWord p.kind ++ [32] ++ join (argsT (txt d) p.kind p.args) []

/-- A right selection of no more than d levels. -/
def Good (d : Nat) (p : Pk) : Prop := okD d p = true ∧ ckL (preD d p) = 0 ∧ (preD d p).length ≤ 200
theorem Good.own {d : Nat} {p : Pk} (h : Good (d + 1) p) : ck1 p = 0 := by
  have := h.2.1
  rw [ckL_pre] at this
  by_cases h1 : ck1 p = 0
  · exact h1
  · rw [if_pos h1] at this; exact absurd this h1
theorem ckL_mem {L : List Pk} (h : ckL L = 0) : ∀ p ∈ L, ck1 p = 0 := by
  induction L with
  | nil => intro p hp; cases hp
  | cons a t ih =>
    have h2 : (if ck1 a ≠ 0 then ck1 a else ckL t) = 0 := h
    by_cases h1 : ck1 a = 0
    · rw [if_neg (fun x => x h1)] at h2
      intro p hp
      rcases List.mem_cons.1 hp with rfl | hp
      · exact h1
      · exact ih h2 p hp
    · rw [if_pos h1] at h2; exact absurd h2 h1
theorem ckL_of {L : List Pk} (h : ∀ p ∈ L, ck1 p = 0) : ckL L = 0 := by
  induction L with
  | nil => rfl
  | cons a t ih =>
    show (if ck1 a ≠ 0 then ck1 a else ckL t) = 0
    rw [if_neg (fun x => x (h a List.mem_cons_self))]
    exact ih fun p hp => h p (List.mem_cons_of_mem _ hp)
theorem Good.arg {d : Nat} {p : Pk} (h : Good (d + 1) p) : ∀ a ∈ p.args, Good d a := by
  intro a ha
  refine ⟨List.all_eq_true.1 (show p.args.all (okD d) = true from h.1) a ha, ckL_of fun q hq => ckL_mem h.2.1 q ?_, ?_⟩
  · show q ∈ p :: p.args.flatMap (preD d)
    exact List.mem_cons_of_mem _ (List.mem_flatMap.2 ⟨a, ha, hq⟩)
  · have h1 := flat_mem (preD d) p.args a ha
    have h2 : (preD (d + 1) p).length = (p.args.flatMap (preD d)).length + 1 := rfl
    have := h.2.2
    omega
theorem Good.args {d : Nat} {p : Pk} (h : Good (d + 1) p) : p.args.length < 200 := by
  have h1 := args_len d p.args h.1
  have h2 : (preD (d + 1) p).length = (p.args.flatMap (preD d)).length + 1 := rfl
  have := h.2.2
  omega
/-- What is known of a right part. -/
theorem ck1_ok {p : Pk} (h : ck1 p = 0) : (1 ≤ p.kind ∧ p.kind ≤ 9) ∧ (0 ≤ p.frm ∧ p.frm ≤ 9999) ∧ (0 ≤ p.to ∧ p.to ≤ 9999) ∧ (4 ≤ p.kind → 1 ≤ p.args.length) ∧ (p.kind = 4 ∨ p.kind = 5 → 2 ≤ p.args.length) ∧ (p.kind = 5 → p.args.length = 2) ∧ (6 ≤ p.kind → p.args.length = 1) := by
  by_cases h1 : p.kind < 1 ∨ 9 < p.kind
  · unfold ck1 at h; rw [if_pos h1] at h; cases h
  have key : p.kind = 1 ∨ p.kind = 2 ∨ p.kind = 3 ∨ p.kind = 4 ∨ p.kind = 5 ∨ p.kind = 6 ∨ p.kind = 7 ∨ p.kind = 8 ∨ p.kind = 9 := by omega
  rcases key with hk | hk | hk | hk | hk | hk | hk | hk | hk
  · rw [ck1_of hk (by omega) (by omega) (show shp 1 = (9999, 9999, 0, 0) from rfl)] at h; unfold ckS at h; (repeat' split at h) <;> omega
  · rw [ck1_of hk (by omega) (by omega) (show shp 2 = (999, 0, 0, 0) from rfl)] at h; unfold ckS at h; (repeat' split at h) <;> omega
  · rw [ck1_of hk (by omega) (by omega) (show shp 3 = (999, 0, 0, 0) from rfl)] at h; unfold ckS at h; (repeat' split at h) <;> omega
  · rw [ck1_of hk (by omega) (by omega) (show shp 4 = (0, 0, 2, 200) from rfl)] at h; unfold ckS at h; (repeat' split at h) <;> omega
  · rw [ck1_of hk (by omega) (by omega) (show shp 5 = (0, 0, 2, 2) from rfl)] at h; unfold ckS at h; (repeat' split at h) <;> omega
  · rw [ck1_of hk (by omega) (by omega) (show shp 6 = (0, 0, 1, 1) from rfl)] at h; unfold ckS at h; (repeat' split at h) <;> omega
  · rw [ck1_of hk (by omega) (by omega) (show shp 7 = (0, 0, 1, 1) from rfl)] at h; unfold ckS at h; (repeat' split at h) <;> omega
  · rw [ck1_of hk (by omega) (by omega) (show shp 8 = (0, 0, 1, 1) from rfl)] at h; unfold ckS at h; (repeat' split at h) <;> omega
  · rw [ck1_of hk (by omega) (by omega) (show shp 9 = (9999, 9999, 1, 1) from rfl)] at h; unfold ckS at h; (repeat' split at h) <;> omega

theorem numT_len {n : Int} (h1 : n ≤ 9999) : (numT n).length ≤ 4 := dd_len _ _ (by decide) (by rw [show (10 : Nat) ^ 4 = 10000 from rfl]; omega)
theorem kWord_len (k : Int) : (kWord k).length ≤ 6 := by unfold kWord; (repeat' split) <;> simp
theorem argT_len (T : Pk → List UInt8) (kind : Int) (i : Nat) (a : Pk) : (argT T kind i a).length ≤ (T a).length + 2 := by
  unfold argT paren
  split <;> simp
/-- Texts that are short enough. -/
theorem join_bd (T : Pk → List UInt8) (g : Pk → List Pk) (kind : Int) (sep : List UInt8) (hs : sep.length ≤ 3) : ∀ (l : List Pk) (i : Nat), (∀ a ∈ l, (T a).length + 5 ≤ 64 * (g a).length) → (joinTail sep (l.mapIdx fun j a => argT T kind (j + i) a)).length ≤ 64 * (l.flatMap g).length
  | [], _, _ => by simp [joinTail]
  | x :: r, i, h => by
    have h1 := h x List.mem_cons_self
    have h2 := argT_len T kind (0 + i) x
    have h3 := join_bd T g kind sep hs r (i + 1) fun a ha => h a (List.mem_cons_of_mem _ ha)
    rw [List.mapIdx_cons, List.flatMap_cons, List.length_append]
    unfold joinTail at h3 ⊢
    rw [List.map_cons, List.flatten_cons, List.length_append, List.length_append]
    simp only [Nat.add_assoc, Nat.add_comm 1 i] at h3 ⊢
    omega
theorem joins_bd (T : Pk → List UInt8) (g : Pk → List Pk) (kind : Int) (sep : List UInt8) (hs : sep.length ≤ 3) (l : List Pk) (h : ∀ a ∈ l, (T a).length + 5 ≤ 64 * (g a).length) : (join (argsT T kind l) sep).length ≤ 64 * (l.flatMap g).length := by
  cases l with
  | nil => show (join [] sep).length ≤ _; rw [join_nil]; simp
  | cons x r =>
    have h1 := h x List.mem_cons_self
    have h2 := argT_len T kind 0 x
    have h3 := join_bd T g kind sep hs r 1 fun a ha => h a (List.mem_cons_of_mem _ ha)
    unfold argsT
    rw [List.mapIdx_cons, join_cons, List.length_append, List.flatMap_cons, List.length_append]
    omega
theorem txt_bd : ∀ (d : Nat) (p : Pk), Good d p → (txt d p).length + 5 ≤ 64 * (preD d p).length
  | 0, p, h => by cases h.1
  | d + 1, p, h => by
    obtain ⟨⟨k1, k9⟩, ⟨f0, f1⟩, ⟨t0, t1⟩, _⟩ := ck1_ok h.own
    have ha := fun a hm => txt_bd d a (h.arg a hm)
    have n1 := numT_len f1
    have n2 := numT_len t1
    have w1 := kWord_len p.kind
    have w9 := kWord_len 9
    have j1 := joins_bd (txt d) (preD d) p.kind [32, 43, 32] (by decide) p.args ha
    have j2 := joins_bd (txt d) (preD d) p.kind [32, 45, 32] (by decide) p.args ha
    have j3 := joins_bd (txt d) (preD d) p.kind [] (by decide) p.args ha
    have e : (preD (d + 1) p).length = (p.args.flatMap (preD d)).length + 1 := rfl
    rw [e]
    unfold txt
    (repeat' split) <;> (try simp only [List.length_append, List.length_cons, List.length_nil]) <;> omega
theorem txt_le {d : Nat} {p : Pk} (h : Good d p) : (txt d p).length ≤ 12800 := by have := txt_bd d p h; have := h.2.2; omega
theorem joins_le {d : Nat} {p : Pk} (h : Good (d + 1) p) (kind : Int) (sep : List UInt8) (hs : sep.length ≤ 3) : (join (argsT (txt d) kind p.args) sep).length ≤ 12800 := by
  have := joins_bd (txt d) (preD d) kind sep hs p.args fun a hm => txt_bd d a (h.arg a hm)
  have e : (preD (d + 1) p).length = (p.args.flatMap (preD d)).length + 1 := rfl
  have := h.2.2
  omega
end Go.Proofs.YtgpblgalklegkaaDoor
