/- Selections: how they lie in memory, and their parts. -/
import Derived.Test.YtgpblgalklegkaaDoorBl
import Derived.Test.YtgpblgalklegkaaDoorShelf
import Derived.Laws.OwnMore
namespace Go.Proofs.YtgpblgalklegkaaDoor
open Go.RowKit

inductive Pk where
  | mk (kind frm to : Int) (args : List Pk)
def Pk.kind : Pk → Int | .mk k _ _ _ => k
def Pk.frm : Pk → Int | .mk _ f _ _ => f
def Pk.to : Pk → Int | .mk _ _ t _ => t
def Pk.args : Pk → List Pk | .mk _ _ _ a => a

/-- v reads as the selections L. -/
inductive PkV (w : World) : Value → List Pk → Prop
  | empty (o : Option Addr) (cap : Nat) : PkV w (.slice o 0 cap) []
  | row (b off cap : Nat) (L : List Pk) (f : Nat → Value) (h0 : 0 < L.length) (hm : L.length ≤ 9223372036854775807 ∧ L.length ≤ cap)
      (hc : ∀ i (hi : i < L.length), w.cell? ⟨b, off + i * 4, none⟩ = some (.int .i64 (L[i].kind)) ∧ w.cell? ⟨b, off + i * 4 + 1, none⟩ = some (.int .i64 (L[i].frm)) ∧ w.cell? ⟨b, off + i * 4 + 2, none⟩ = some (.int .i64 (L[i].to)) ∧ w.cell? ⟨b, off + i * 4 + 3, none⟩ = some (f i))
      (hv : ∀ i (hi : i < L.length), PkV w (f i) (L[i].args)) : PkV w (.slice (some ⟨b, off, none⟩) L.length cap) L
theorem PkV.bl {w w' : World} {v : Value} {L : List Pk} (h : PkV w v L) (g : Bl w w') : PkV w' v L := by
  induction h with
  | empty o cap => exact .empty o cap
  | row b off cap L f h0 hm hc hv ih => exact .row b off cap L f h0 hm (fun i hi => ⟨g.cell (hc i hi).1, g.cell (hc i hi).2.1, g.cell (hc i hi).2.2.1, g.cell (hc i hi).2.2.2⟩) ih
theorem PkV.form {w : World} {v : Value} {L : List Pk} (h : PkV w v L) : ∃ o cap, v = .slice o L.length cap ∧ L.length ≤ 9223372036854775807 ∧ L.length ≤ cap := by
  cases h with
  | empty o cap => exact ⟨o, cap, rfl, by simp⟩
  | row b off cap L f h0 hm hc hv => exact ⟨_, cap, rfl, hm⟩
/-- One of them. -/
theorem PkV.at {w : World} {o : Option Addr} {n cap : Nat} {L : List Pk} (h : PkV w (.slice o n cap) L) (i : Nat) (hi : i < L.length) :
    ∃ b off sv, o = some ⟨b, off, none⟩ ∧ (w.cell? ⟨b, off + i * 4, none⟩ = some (.int .i64 (L[i].kind)) ∧ w.cell? ⟨b, off + i * 4 + 1, none⟩ = some (.int .i64 (L[i].frm)) ∧ w.cell? ⟨b, off + i * 4 + 2, none⟩ = some (.int .i64 (L[i].to)) ∧ w.cell? ⟨b, off + i * 4 + 3, none⟩ = some sv) ∧ PkV w sv (L[i].args) := by
  cases h with
  | empty o cap => cases hi
  | row b off cap L f h0 hm hc hv => exact ⟨b, off, f i, rfl, hc i hi, hv i hi⟩

/-- The parts, each one ahead of its own, d levels deep. -/
def preD : Nat → Pk → List Pk
  | 0, _ => []
  | d + 1, p => p :: p.args.flatMap (preD d)
/-- It has no more than d levels. -/
def okD : Nat → Pk → Bool
  | 0, _ => false
  | d + 1, p => p.args.all (okD d)
/-- How many parts the reference counts. -/
def cntD : Nat → Pk → Nat
  | 0, _ => 1
  | d + 1, p => p.args.foldl (fun n a => min (n + cntD d a) 201) 1
/-- The greatest level that the reference finds: d levels are left of 13. -/
def depD : Nat → Pk → Nat
  | 0, _ => 13
  | d + 1, p => p.args.foldl (fun n a => max n (depD d a)) (12 - d)

/-- A row of selections, with the slices of their own. -/
def flat4 : List (Pk × Value) → List Value
  | [] => []
  | x :: r => .int .i64 x.1.kind :: .int .i64 x.1.frm :: .int .i64 x.1.to :: x.2 :: flat4 r
theorem flat4_len : ∀ l, (flat4 l).length = l.length * 4
  | [] => rfl
  | p :: r => by simp only [flat4, List.length_cons, flat4_len r]; omega
theorem flat4_app : ∀ l r, flat4 (l ++ r) = flat4 l ++ flat4 r
  | [], r => rfl
  | p :: l, r => by simp only [flat4, List.cons_append, flat4_app l r]
theorem flat4_get : ∀ (l : List (Pk × Value)) (i : Nat) (h : i < l.length), (flat4 l)[i * 4]? = some (.int .i64 (l[i].1.kind)) ∧ (flat4 l)[i * 4 + 1]? = some (.int .i64 (l[i].1.frm)) ∧ (flat4 l)[i * 4 + 2]? = some (.int .i64 (l[i].1.to)) ∧ (flat4 l)[i * 4 + 3]? = some (l[i].2)
  | [], i, h => absurd h (Nat.not_lt_zero _)
  | p :: r, 0, _ => ⟨rfl, rfl, rfl, rfl⟩
  | p :: r, i + 1, h => by
    have := flat4_get r i (by simpa using h)
    rw [show (i + 1) * 4 = i * 4 + 1 + 1 + 1 + 1 by omega, show i * 4 + 1 + 1 + 1 + 1 + 1 = (i * 4 + 1) + 1 + 1 + 1 + 1 by omega, show i * 4 + 1 + 1 + 1 + 1 + 2 = (i * 4 + 2) + 1 + 1 + 1 + 1 by omega, show i * 4 + 1 + 1 + 1 + 1 + 3 = (i * 4 + 3) + 1 + 1 + 1 + 1 by omega]
    exact this
def RowP (base : Nat) (w : World) (v : Value) (l : List (Pk × Value)) : Prop := w.ownsRow base 24 4 v l.length (flat4 l)
theorem RowP.bl {base : Nat} {w w' : World} {v : Value} {l : List (Pk × Value)} (h : RowP base w v l) (g : Bl w w') : RowP base w' v l :=
  World.ownsRow.kept (row := none) h ⟨g.os, g.tape, g.output, g.size, fun k hk _ => g.block k hk⟩ (by cases hv : v.ownBlock <;> simp)
theorem RowP.form {base : Nat} {w : World} {v : Value} {l : List (Pk × Value)} (h : RowP base w v l) : ∃ o cap, v = .slice o l.length cap := by
  rcases h.2 with ⟨rfl, h0⟩ | ⟨g, cap, cur, rfl, _⟩
  · exact ⟨none, 0, by rw [h0]⟩
  · exact ⟨_, cap, rfl⟩
theorem RowP.at {base : Nat} {w : World} {o : Option Addr} {n cap : Nat} {l : List (Pk × Value)} (h : RowP base w (.slice o n cap) l) (i : Nat) (hi : i < l.length) :
    ∃ g, o = some ⟨g, 0, none⟩ ∧ w.cell? ⟨g, 0 + i * 4, none⟩ = some (.int .i64 (l[i].1.kind)) ∧ w.cell? ⟨g, 0 + i * 4 + 1, none⟩ = some (.int .i64 (l[i].1.frm)) ∧ w.cell? ⟨g, 0 + i * 4 + 2, none⟩ = some (.int .i64 (l[i].1.to)) ∧ w.cell? ⟨g, 0 + i * 4 + 3, none⟩ = some (l[i].2) := by
  rcases h.2 with ⟨_, h0⟩ | ⟨g, cap', cur, hv, _⟩
  · omega
  · cases hv
    obtain ⟨h1, h2, h3, h4⟩ := flat4_get l i hi
    have e1 := h.cells (g := g) rfl _ _ h1
    have e2 := h.cells (g := g) rfl _ _ h2
    have e3 := h.cells (g := g) rfl _ _ h3
    have e4 := h.cells (g := g) rfl _ _ h4
    rw [Go.WideShapes.add_plain] at e1 e2 e3 e4
    rw [show 0 + i * 4 + 1 = 0 + (i * 4 + 1) by omega, show 0 + i * 4 + 2 = 0 + (i * 4 + 2) by omega, show 0 + i * 4 + 3 = 0 + (i * 4 + 3) by omega]
    exact ⟨g, rfl, e1, e2, e3, e4⟩
theorem rowP_nil (base : Nat) (w : World) : RowP base w (.slice none 0 0) [] := World.ownsRow_nil _ _ _ _

theorem cell_four_new (w : World) (a b c d : Value) (t : TypeId) : ∀ j x, [a, b, c, d][j]? = some x → (w.alloc (.cells #[a, b, c, d] t)).cell? ((⟨w.heap.size, 0, none⟩ : Addr).add j) = some x := by
  intro j x hj
  match j, hj with
  | 0, hj => simp at hj; subst hj; simp [Addr.add]
  | 1, hj => simp at hj; subst hj; simp [Addr.add]
  | 2, hj => simp at hj; subst hj; simp [Addr.add]
  | 3, hj => simp at hj; subst hj; simp [Addr.add]
theorem info_pk : (Tryd.prog.info? 24).map (fun i => (i.zero, i.size, i.bytes)) = some (some (.agg #[.int .i64 0, .int .i64 0, .int .i64 0, .slice none 0 0]), 4, 48) := by kernel_rfl

/-- 'append' of one selection to a row of the call's own. -/
theorem app_pk {ops : Array Oper} {rest : List Oper} {o : Oper} {a : Act} {Q : Exit → Act → World → Prop} (hgd : o.guard = none) (s x : Operand)
    (ho : o.op = .call { callee := .builtin .append, args := #[s, x], argTypes := #[22, 22] }) (base : Nat) (w : World) (v : Value) (l : List (Pk × Value)) (p : Pk) (os : Option Addr) (ls cs : Nat)
    (hown : RowP base w v l) (hs : a.eval s = v) (nb : Nat) (hx : a.eval x = .slice (some ⟨nb, 0, none⟩) 1 1) (hnb : nb = w.heap.size) (hn : l.length ≤ 1000000) (hbl : base ≤ w.heap.size)
    (h : ∀ v' w', RowP base w' v' (l ++ [(p, .slice os ls cs)]) → (∀ w0, Bl w0 w → w0.heap.size ≤ base → Bl w0 w') → w.grownBy w' v.ownBlock → wpList Tryd.prog ops Q rest (a.put o.dst v') w') :
    wpList Tryd.prog ops Q (o :: rest) a (w.alloc (.cells #[.int .i64 p.kind, .int .i64 p.frm, .int .i64 p.to, .slice os ls cs] 24)) := by
  subst hnb
  obtain ⟨i0, hi, hz0, hz1, hz2⟩ := info_parts info_pk
  refine wpList_append_own_at _ hgd s x _ ho base 24 i0 (.agg #[.int .i64 0, .int .i64 0, .int .i64 0, .slice none 0 0]) 4 48 Tryd.underlying22 hi hz0 hz1 hz2 rfl (by omega) v l.length _ hs (World.ownsRow.alloc hown _) ⟨w.heap.size, 0, none⟩ 1 1 [.int .i64 p.kind, .int .i64 p.frm, .int .i64 p.to, .slice os ls cs] hx rfl (cell_four_new w _ _ _ _ _) (fun u hu => by simp at hu; rcases hu with rfl | rfl | rfl | rfl <;> rfl) (by unfold maxLen; omega) (by omega) (by simp; omega) ?_
  intro v' w' h2 h3 _ h5
  refine h v' w' ?_ (fun w0 g0 hb => ?_) ⟨h3.os, h3.tape, h3.output, Nat.le_trans (by simp) h3.size, fun k hk hne => (h3.block k (by simp; omega) hne).trans (heap_alloc_old w _ hk)⟩
  · have e1 : flat4 (l ++ [(p, .slice os ls cs)]) = flat4 l ++ [.int .i64 p.kind, .int .i64 p.frm, .int .i64 p.to, .slice os ls cs] := by rw [flat4_app]; rfl
    unfold RowP
    rw [e1]
    simpa using h2
  · exact (g0.alloc _).grown h3 fun k hk => by have := (World.ownsRow.lt hown k hk).1; omega

/-- A box that was laid behind the row stands behind an append to the row. -/
theorem RowP.box {base : Nat} {w w' : World} {v : Value} {l : List (Pk × Value)} {b : Obj} {j : Nat} {x : Value} (h : RowP base w v l) (hg : (w.alloc b).grownBy w' v.ownBlock) (hc : (w.alloc b).cell? ⟨w.heap.size, j, none⟩ = some x) : w'.cell? ⟨w.heap.size, j, none⟩ = some x := by
  have hne : some w.heap.size ≠ v.ownBlock := fun he => by have := (World.ownsRow.lt h w.heap.size he.symm).2; omega
  rw [World.cell?_of_block (hg.block w.heap.size (by simp) hne)]; exact hc
/-- What partsOf gathers: d more levels are left. -/
def partsM : Nat → List Pk → Pk → Option (List Pk)
  | 0, _, _ => none
  | d + 1, L, p => if L.length = 200 then none else p.args.foldlM (partsM d) (L ++ [p])
theorem foldlM_at {α β : Type} (f : β → α → Option β) (b : β) (l : List α) (k : Nat) (hk : k < l.length) : (l.drop k).foldlM f b = (f b l[k]).bind fun b' => (l.drop (k + 1)).foldlM f b' := by
  rw [List.drop_eq_getElem_cons hk]; rfl
theorem foldlM_none {α β : Type} (f : β → α → Option β) {a : α} (hf : ∀ b, f b a = none) : ∀ (l : List α) (b : β), a ∈ l → l.foldlM f b = none
  | [], _, h => by cases h
  | x :: r, b, h => by
    show (f b x).bind (fun b' => r.foldlM f b') = none
    rcases List.mem_cons.1 h with rfl | h
    · rw [hf]; rfl
    · cases f b x with
      | none => rfl
      | some b' => exact foldlM_none f hf r b' h
theorem foldlM_pre (g : Pk → List Pk) (f : List Pk → Pk → Option (List Pk)) : ∀ (l : List Pk) (b : List Pk), (∀ a ∈ l, ∀ b : List Pk, b.length ≤ 200 → f b a = if b.length + (g a).length ≤ 200 then some (b ++ g a) else none) → b.length ≤ 200 →
    l.foldlM f b = if b.length + (l.flatMap g).length ≤ 200 then some (b ++ l.flatMap g) else none
  | [], b, _, hb => by
    show some b = _
    simp [hb]
  | x :: r, b, hf, hb => by
    show (f b x).bind (fun b' => r.foldlM f b') = _
    rw [hf x List.mem_cons_self b hb, List.flatMap_cons, List.length_append]
    by_cases h : b.length + (g x).length ≤ 200
    · rw [if_pos h]
      show r.foldlM f (b ++ g x) = _
      rw [foldlM_pre g f r (b ++ g x) (fun a ha => hf a (List.mem_cons_of_mem _ ha)) (by rw [List.length_append]; exact h), List.length_append, List.append_assoc, Nat.add_assoc]
    · rw [if_neg h, if_neg (by omega)]
      rfl
theorem partsM_ok : ∀ (d : Nat) (L : List Pk) (p : Pk), okD d p = true → L.length ≤ 200 → partsM d L p = if L.length + (preD d p).length ≤ 200 then some (L ++ preD d p) else none
  | 0, L, p, h, _ => by cases h
  | d + 1, L, p, h, hL => by
    have ha := List.all_eq_true.1 (show p.args.all (okD d) = true from h)
    show (if L.length = 200 then none else p.args.foldlM (partsM d) (L ++ [p])) = if L.length + (p :: p.args.flatMap (preD d)).length ≤ 200 then some (L ++ (p :: p.args.flatMap (preD d))) else none
    by_cases h2 : L.length = 200
    · rw [if_pos h2, if_neg (by simp only [List.length_cons]; omega)]
    · rw [if_neg h2, foldlM_pre (preD d) (partsM d) p.args (L ++ [p]) (fun a hm b hb => partsM_ok d b a (ha a hm) hb) (by simp; omega)]
      simp only [List.length_append, List.length_cons, List.length_nil, List.append_assoc, List.singleton_append]
      rw [show L.length + (0 + 1) + (p.args.flatMap (preD d)).length = L.length + ((p.args.flatMap (preD d)).length + 1) by omega]
theorem partsM_deep : ∀ (d : Nat) (L : List Pk) (p : Pk), okD d p = false → partsM d L p = none
  | 0, L, p, _ => rfl
  | d + 1, L, p, h => by
    obtain ⟨a, ha, hb⟩ : ∃ a ∈ p.args, okD d a = false := by
      have : ¬ ∀ a ∈ p.args, okD d a = true := fun hh => by
        rw [show okD (d + 1) p = p.args.all (okD d) from rfl, List.all_eq_true.2 hh] at h; cases h
      simpa using this
    show (if L.length = 200 then none else p.args.foldlM (partsM d) (L ++ [p])) = none
    split
    · rfl
    · exact foldlM_none _ (fun b => partsM_deep d b a hb) _ _ ha
theorem foldl_min (g : Pk → List Pk) (c : Pk → Nat) : ∀ (l : List Pk) (n : Nat), (∀ a ∈ l, c a = min (g a).length 201) → 1 ≤ n → l.foldl (fun n a => min (n + c a) 201) (min n 201) = min (n + (l.flatMap g).length) 201
  | [], n, _, _ => by simp
  | x :: r, n, h, hn => by
    show r.foldl _ (min (min n 201 + c x) 201) = _
    rw [h x List.mem_cons_self, show min (min n 201 + min (g x).length 201) 201 = min (n + (g x).length) 201 by omega, foldl_min g c r _ (fun a ha => h a (List.mem_cons_of_mem _ ha)) (by omega), List.flatMap_cons, List.length_append, Nat.add_assoc]
theorem cntD_ok : ∀ (d : Nat) (p : Pk), okD d p = true → cntD d p = min (preD d p).length 201
  | 0, p, h => by cases h
  | d + 1, p, h => by
    have ha := List.all_eq_true.1 (show p.args.all (okD d) = true from h)
    show p.args.foldl (fun n a => min (n + cntD d a) 201) (min 1 201) = min (p :: p.args.flatMap (preD d)).length 201
    rw [foldl_min (preD d) (cntD d) p.args 1 (fun a hm => cntD_ok d a (ha a hm)) (Nat.le_refl _), List.length_cons, Nat.add_comm 1]
theorem foldl_max (c : Pk → Nat) : ∀ (l : List Pk) (n : Nat), l.foldl (fun n a => max n (c a)) n ≤ 12 ↔ n ≤ 12 ∧ ∀ a ∈ l, c a ≤ 12
  | [], n => by simp
  | x :: r, n => by
    show r.foldl _ (max n (c x)) ≤ 12 ↔ _
    rw [foldl_max c r]
    rw [show max n (c x) ≤ 12 ↔ n ≤ 12 ∧ c x ≤ 12 by omega, and_assoc]
    simp only [List.mem_cons, forall_eq_or_imp]
theorem depD_ok : ∀ (d : Nat) (p : Pk), depD d p ≤ 12 ↔ okD d p = true
  | 0, p => by simp [depD, okD]
  | d + 1, p => by
    show p.args.foldl (fun n a => max n (depD d a)) (12 - d) ≤ 12 ↔ p.args.all (okD d) = true
    rw [foldl_max, List.all_eq_true]
    exact ⟨fun h a ha => (depD_ok d a).1 (h.2 a ha), fun h => ⟨by omega, fun a ha => (depD_ok d a).2 (h a ha)⟩⟩
/-- A selection that is not too large. -/
def smallP (p : Pk) : Bool := okD 12 p && decide ((preD 12 p).length ≤ 200)
theorem small_prog (p : Pk) : partsM 12 [] p = if smallP p = true then some (preD 12 p) else none := by
  unfold smallP
  cases h : okD 12 p with
  | false => rw [partsM_deep 12 [] p h]; rfl
  | true => rw [partsM_ok 12 [] p h (by simp)]; simp
theorem small_ref (p : Pk) : (decide (200 < cntD 12 p) || decide (12 < depD 12 p)) = !smallP p := by
  unfold smallP
  cases h : okD 12 p with
  | false =>
    have : ¬ depD 12 p ≤ 12 := fun hh => by rw [(depD_ok 12 p).1 hh] at h; cases h
    simp; omega
  | true =>
    have h1 := (depD_ok 12 p).2 h
    have h2 := cntD_ok 12 p h
    rw [h2]
    by_cases h3 : (preD 12 p).length ≤ 200
    · simp [h3]; omega
    · simp [h3]; omega
end Go.Proofs.YtgpblgalklegkaaDoor
