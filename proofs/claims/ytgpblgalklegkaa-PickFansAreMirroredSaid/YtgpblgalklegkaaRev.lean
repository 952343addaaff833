/- slices.Clone and slices.Reverse of a slice of ints. -/
import Derived.Test.YtgpblgalklegkaaOwnR
import Derived.Test.YtgpblgalklegkaaShelf
import Derived.ArgAppend
import Derived.Lib.BufferMore
import Derived.Deep.AppendLies
import Derived.Deep.RegionHeld3
import Derived.Deep.Onto
import Derived.RegionTactic
import Derived.ChangeAlike
namespace Go.Proofs.Ytgpblgalklegkaa
open Go.RowKit Go.Sort

theorem app_none {P : Program} (t ty e : TypeId) (i : TypeInfo) (ht : P.underlying t = some (.slice e)) (hi : P.info? e = some i) (o1 o2 : Option Addr) (c2 : Nat) (w : World) :
    (Builtin.append_ #[t, t] ty #[.slice o1 0 0, .slice o2 0 c2]).run P w = .ok (.slice o1 0 0) w := by
  cases o1 <;> cases o2 <;> simp [Builtin.append_, run_underlying ht, sizeOf, typeInfo, hi, Builtin.lenOf, Builtin.firstCells, storeCells, loadCells, loadCellsFrom]

/-- 'append' of nothing to nothing. -/
theorem list_app_none {P : Program} {ops : Array Oper} {rest : List Oper} {o : Oper} {a : Act} {Q : Exit → Act → World → Prop} (w : World) (hgd : o.guard = none) (s x : Operand) (t : TypeId)
    (ho : o.op = .call { callee := .builtin .append, args := #[s, x], argTypes := #[t, t] }) (e : TypeId) (i : TypeInfo) (ht : P.underlying t = some (.slice e)) (hi : P.info? e = some i) (o1 o2 : Option Addr) (c2 : Nat)
    (hs : a.eval s = .slice o1 0 0) (hx : a.eval x = .slice o2 0 c2) (h : wpList P ops Q rest (a.put o.dst (.slice o1 0 0)) w) : wpList P ops Q (o :: rest) a w := by
  refine wpList_plain hgd fun K hK' => ?_
  have hrun := app_none (P := P) t o.type e i ht hi o1 o2 c2 w
  unfold Oper.wp
  simp [execOp, ho, resolve, invoke, builtin, hs, hx, hrun, Result.andThen]
  exact hK' _ _ h

theorem ints_one (l : List Int) : ∀ u ∈ l.map (Value.int .i64), u.oneCell' = true := fun u hu => by
  obtain ⟨a, _, rfl⟩ := List.mem_map.1 hu
  rfl
theorem ints_len (l : List Int) : (l.map (Value.int .i64)).length = l.length * 1 := by simp

set_option maxRecDepth 100000 in
set_option maxHeartbeats 1600000 in
theorem clone_ints (b off cap : Nat) (l : List Int) (w : World) (h : ∀ i, i < l.length → w.cell? ⟨b, off + i, none⟩ = some (.int .i64 (l[i]?.getD 0))) (hl : l.length ≤ 10000) (h0 : 0 < l.length) :
    Calls Try.prog 11 #[.slice (some ⟨b, off, none⟩) l.length cap] w fun e w' => ∃ g cap9, e = .returned (.slice (some ⟨g, 0, none⟩) l.length cap9) ∧ Own w w' g cap9 l ∧ Bl w w' := by
  obtain ⟨i0, hi, hz0, hz1, hz2⟩ := info_parts info_i
  have H := Lib.hid h
  have he : ∀ w' : World, (binOp .eql 22 (.slice (some ⟨b, off, none⟩) l.length cap) (.slice none 0 0)).run Try.prog w' = .ok (.bool false) w' := fun w' => Lib.run_eql_slice_some_nil w' _ _ _ Try.underlying22
  have hat : ∀ (w' : World), Bl w w' → ∀ j u, (l.map (Value.int .i64))[j]? = some u → w'.cell? ((⟨b, off, none⟩ : Addr).add j) = some u := by
    intro w' m j u hj
    rw [Go.WideShapes.add_plain]
    have hlt : j < l.length := by
      have := (List.getElem?_eq_some_iff.1 hj).1
      simpa using this
    rw [List.getElem?_map, List.getElem?_eq_getElem hlt, Option.map_some] at hj
    cases hj
    have := m.cell (H.out j hlt)
    rw [List.getElem?_eq_getElem hlt, Option.getD_some] at this
    exact this
  have HA := Lib.hid hat
  clear h hat
  go_enter Try.func11, Try.ntmps11
  go_wp2_with (at_builtin; refine wpList_append_grows _ rfl _ _ _ rfl 3 i0 (.int .i64 0) 1 8 Try.underlying22 hi hz0 hz1 hz2 rfl (by omega) _ 0 0 [] rfl (fun hn => by cases hn) rfl (fun _ _ j u hj => by simp at hj) ⟨b, off, none⟩ l.length cap (l.map (Value.int .i64)) rfl (ints_len l) (HA.out _ (by ((repeat (first | with_reducible exact Bl.refl _ | with_reducible assumption | with_reducible refine Bl.drew ?_ | with_reducible refine Bl.alloc ?_ _ | with_reducible refine Bl.trans ?_ (by assumption))); done))) (ints_one l) (by omega) (by unfold maxLen; omega) (by omega) ?_; intro v' w' hown' hg'; obtain ⟨g, cap9, hv9, _, _⟩ := World.ownsRow.form hown' (by omega); subst hv9; have g9 : Bl w w' := Bl.grown (by ((repeat (first | with_reducible exact Bl.refl _ | with_reducible assumption | with_reducible refine Bl.drew ?_ | with_reducible refine Bl.alloc ?_ _ | with_reducible refine Bl.trans ?_ (by assumption))); done)) hg' (fun k hk => by cases hk); have HN := Lib.hid hown'; clear hown' hg')
  go_returns
  refine ⟨g, cap9, rfl, ?_, g9⟩
  have := HN.out
  rw [Nat.zero_add, List.nil_append] at this
  exact World.ownsRow.mono this (by simp)

/-- What stands in the row behind k exchanges. -/
def RevAt (l ds : List Int) (k : Nat) : Prop := ds.length = l.length ∧ ∀ j, j < l.length → ds[j]?.getD 0 = if j < k ∨ l.length - 1 - k < j then l[l.length - 1 - j]?.getD 0 else l[j]?.getD 0
theorem rev_step {l ds : List Int} {k m : Nat} {x y : Int} (h : RevAt l ds k) (hm : m = l.length - 1 - k) (hk : k < m) (hx : ds[k]?.getD 0 = x) (hy : ds[m]?.getD 0 = y) : RevAt l ((ds.set k y).set m x) (k + 1) := by
  obtain ⟨hl, ha⟩ := h
  have ex := ha k (by omega)
  have ey := ha m (by omega)
  rw [hx, if_neg (by omega)] at ex
  rw [hy, if_neg (by omega)] at ey
  refine ⟨by simp [hl], fun j hj => ?_⟩
  by_cases h1 : j = m
  · subst h1
    rw [List.getElem?_set_self (by rw [List.length_set, hl]; exact hj), if_pos (by omega), Option.getD_some, ex, show l.length - 1 - j = k by omega]
  · rw [List.getElem?_set_ne (Ne.symm h1)]
    by_cases h2 : j = k
    · subst h2
      rw [List.getElem?_set_self (by rw [hl]; exact hj), if_pos (by omega), Option.getD_some, ey, ← hm]
    · rw [List.getElem?_set_ne (Ne.symm h2), ha j hj]
      by_cases h3 : j < k ∨ l.length - 1 - k < j
      · rw [if_pos h3, if_pos (by omega)]
      · rw [if_neg h3, if_neg (by omega)]
theorem rev_end {l ds : List Int} {k : Nat} (h : RevAt l ds k) (hk : l.length ≤ 2 * k + 1) : ds = l.reverse := by
  obtain ⟨hl, ha⟩ := h
  refine List.ext_getElem (by simp [hl]) fun j h1 h2 => ?_
  have := ha j (by omega)
  rw [List.getElem?_eq_getElem h1, Option.getD_some] at this
  rw [this, List.getElem_reverse]
  split
  · rw [List.getElem?_eq_getElem (by omega), Option.getD_some]
  · rename_i h3
    rw [List.getElem?_eq_getElem (by omega), Option.getD_some]
    congr 1
    omega

set_option maxRecDepth 100000 in
set_option maxHeartbeats 1600000 in
theorem reverse_ints (W w : World) (g cap : Nat) (l : List Int) (h : Own W w g cap l) (hl : l.length ≤ 10000) (hb : Bl W w) :
    Calls Try.prog 12 #[.slice (some ⟨g, 0, none⟩) l.length cap] w fun e w' => e = .returned (.tuple #[]) ∧ Own W w' g cap l.reverse ∧ Bl W w' := by
  have HO := Lib.hid h
  clear h
  go_enter Try.func12, Try.ntmps12
  go_wp2_with fail
  go_loopw [2, 3] (fun i j wr => ∃ (k : Nat) (ds : List Int), i = .int .i64 k ∧ j = .int .i64 ((l.length : Int) - 1 - k) ∧ 2 * k ≤ l.length ∧ Hid (RevAt l ds k) ∧ Own W wr g cap ds ∧ Bl W wr) (fun i _ _ => l.length - (intOf i).toNat)
  case atStart => exact ⟨0, l, rfl, by go_num, by omega, Lib.hid ⟨rfl, fun j hj => by rw [if_neg (by omega)]⟩, HO.out, hb⟩
  case round =>
    obtain ⟨k, ds, rfl, rfl, hk, hr, hown, hbr⟩ := hrel
    by_cases hlt : 2 * k + 1 < l.length
    · obtain ⟨m, hm⟩ : ∃ m, m = l.length - 1 - k := ⟨_, rfl⟩
      have hmk : k < m := by omega
      have hmi : (l.length : Int) - 1 - (k : Int) = (m : Int) := by omega
      obtain ⟨x, hx⟩ : ∃ x, ds[k]?.getD 0 = x := ⟨_, rfl⟩
      obtain ⟨y, hy⟩ : ∃ y, ds[m]?.getD 0 = y := ⟨_, rfl⟩
      have hs := Lib.hid (rev_step hr.out hm hmk hx hy)
      have hdl := hr.out.1
      have c1 := hown.cell k (by omega)
      have c2 := hown.cell m (by omega)
      rw [hx] at c1
      rw [hy] at c2
      have f1 := hown.free k
      have f2 := hown.free m
      have HW := Lib.hid hown
      rw [hmi]
      have z1 : (k : Int) < (m : Int) := by omega
      have z2 : (m : Int) < (l.length : Int) := by omega
      have z3 : (k : Int) < (l.length : Int) := by omega
      have z4 : m < l.length := by omega
      have z5 : k < l.length := by omega
      have HM := Lib.hid hmi
      clear hown hx hy hr hm hmi
      go_wp2_with fail
      go_region
      all_goals go_wp2_with fail
      all_goals go_roundw
      case rel => exact ⟨k + 1, (ds.set k y).set m x, by go_num, congrArg (Value.int .i64) (by have := HM.out; omega), by omega, hs, (HW.out.set k y).set m x, ((HW.out.set k y).bl (HW.out.bl hbr k (.int .i64 y)) m (.int .i64 x)).drewN 1⟩
      case measure => simp [intOf]; omega
    · have he := rev_end hr.out (by omega)
      subst he
      have z1 : ¬ (k : Int) < (l.length : Int) - 1 - (k : Int) := by omega
      have HW := Lib.hid hown
      clear hown hr
      go_wp2_with fail
      go_end0
      exact ⟨rfl, HW.out, hbr⟩

theorem clone_none (o : Option Addr) (cap : Nat) (w : World) :
    Calls Try.prog 11 #[.slice o 0 cap] w fun e w' => ∃ o2 cap9, e = .returned (.slice o2 0 cap9) ∧ Bl w w' := by
  obtain ⟨i0, hi, hz0, hz1, hz2⟩ := info_parts info_i
  cases o with
  | none =>
    have he : ∀ w' : World, (binOp .eql 22 (.slice none 0 cap) (.slice none 0 0)).run Try.prog w' = .ok (.bool true) w' := fun w' => Lib.run_eql_slice_nil_nil w' _ _ Try.underlying22
    go_enter Try.func11, Try.ntmps11
    go_wp2_with fail
    go_returns
    exact ⟨_, _, rfl, Bl.refl _⟩
  | some a =>
    have he : ∀ w' : World, (binOp .eql 22 (.slice (some a) 0 cap) (.slice none 0 0)).run Try.prog w' = .ok (.bool false) w' := fun w' => Lib.run_eql_slice_some_nil w' _ _ _ Try.underlying22
    go_enter Try.func11, Try.ntmps11
    go_wp2_with (at_builtin; refine list_app_none _ rfl _ _ _ rfl _ i0 Try.underlying22 hi _ _ _ rfl rfl ?_)
    go_returns
    exact ⟨_, _, rfl, (Bl.refl _).alloc _⟩
theorem reverse_none (o : Option Addr) (cap : Nat) (w : World) :
    Calls Try.prog 12 #[.slice o 0 cap] w fun e w' => e = .returned (.tuple #[]) ∧ w' = w := by
  go_enter Try.func12, Try.ntmps12
  go_wp2_with fail
  refine wp_loop_rounds 1 ?_
  rw [rounds_succ]
  go_wp2_with fail
  go_end0
  exact ⟨rfl, rfl⟩
end Go.Proofs.Ytgpblgalklegkaa
