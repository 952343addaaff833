/- slots of the reference, and small facts of it. -/
import Derived.Test.YtcidldomnifdeaaDoorFxM
import Derived.Test.YtcidldomnifdeaaDoorNameR
import Derived.Test.YtcidldomnifdeaaDoorRefI
import Derived.Test.YtcidldomnifdeaaDoorLib
namespace Go.Proofs.YtcidldomnifdeaaDoor
open Go.RowKit Go.Sort

/-- A row of ints at its place. -/
def IntsAt (w : World) (b : Nat) (zs : List Int) : Prop := ∀ j, j < zs.length → w.cell? ⟨b, 0 + j, none⟩ = some (.int .i64 (zs.getD j 0))
theorem IntsAt.bl {w w' : World} {b : Nat} {zs : List Int} (h : IntsAt w b zs) (g : Bl w w') : IntsAt w' b zs := fun j hj => g.cell (h j hj)
set_option maxHeartbeats 1600000 in
theorem slotsR_any (x : Par) (o : Option Addr) (n c : Nat) (w : World) :
    Calls Tryd.prog 69 #[.agg #[.string x.name, .int .i64 x.grp, .int .i64 x.slot, .int .i64 x.fine, .int .i64 x.dflt, .bool x.snap, .slice o n c]] w fun e w' => ∃ (b c : Nat), e = .returned (.slice (some ⟨b, 0, none⟩) (slotsOf x).length c) ∧ Bl w w' ∧ IntsAt w' b (slotsOf x) := by
  by_cases h : x.fine = 0
  · have e : slotsOf x = [x.slot] := by unfold slotsOf; rw [if_pos h]
    have hb : (x.fine == 0) = true := by simpa using h
    rw [e]
    clear e h
    go_enter Tryd.func69, Tryd.ntmps69
    go_wp2
    go_returns
    exact ⟨_, _, rfl, ((Bl.refl w).alloc _).alloc _, fun j hj => by
      match j, hj with
      | 0, _ => simp⟩
  · have e : slotsOf x = [x.slot, x.fine] := by unfold slotsOf; rw [if_neg h]
    have hb : (x.fine == 0) = false := by simpa using h
    rw [e]
    clear e h
    go_enter Tryd.func69, Tryd.ntmps69
    go_wp2
    go_returns
    exact ⟨_, _, rfl, ((Bl.refl w).alloc _).alloc _, fun j hj => by
      match j, hj with
      | 0, _ => simp
      | 1, _ => simp⟩
theorem withinR_is (n lo hi : Int) (v : Bool) (h : (decide (lo ≤ n) && decide (n ≤ hi)) = v) (w : World) :
    Calls Tryd.prog 40 #[.int .i64 n, .int .i64 lo, .int .i64 hi] w fun e w' => e = .returned (.bool v) ∧ w = w' := by subst h; exact withinI n lo hi w
theorem isLevR_is (n : Int) (v : Bool) (h : isLev n = v) (w : World) :
    Calls Tryd.prog 68 #[.int .i64 n] w fun e w' => e = .returned (.bool v) ∧ w = w' := by subst h; exact isLevelI n w
theorem isNmR_is (s : ByteArray) (v : Bool) (h : isNm s.data.toList = v) (w : World) (hs : s.size ≤ 9223372036854775807) :
    Calls Tryd.prog 39 #[.string s] w fun e w' => e = .returned (.bool v) ∧ w = w' := by subst h; exact (isName_ref s w hs).mono fun _ _ h => ⟨h.1, h.2.symm⟩
theorem contR_is (b c : Nat) (zs : List Int) (x : Int) (v : Bool) (h : zs.contains x = v) (w : World) (hz : zs.length ≤ 2) (hc : IntsAt w b zs) :
    Calls Tryd.prog 70 #[.slice (some ⟨b, 0, none⟩) zs.length c, .int .i64 x] w fun e w' => e = .returned (.bool v) ∧ w = w' := by
  subst h
  have := Tryd.slices_Contains_int b 0 zs.length c zs x w (Nat.le_refl _) (by omega) hc
  rw [List.take_length] at this
  exact this.mono fun _ _ h => ⟨h.1, h.2.symm⟩
theorem btw_false {n lo hi : Int} (h : n < lo ∨ hi < n) : (decide (lo ≤ n) && decide (n ≤ hi)) = false := by
  rw [Bool.and_eq_false_iff]
  rcases h with h | h
  · exact .inl (decide_eq_false (by omega))
  · exact .inr (decide_eq_false (by omega))
theorem btw_true {n lo hi : Int} (h : lo ≤ n) (h2 : n ≤ hi) : (decide (lo ≤ n) && decide (n ≤ hi)) = true := by
  rw [decide_eq_true h, decide_eq_true h2]; rfl
/-- Equal texts. -/
theorem str_same {a b : ByteArray} (h : a.data.toList = b.data.toList) : (a.toList == b.toList) = true := by
  rw [Lib.toList_data, Lib.toList_data, h]; simp
theorem str_other {a b : ByteArray} (h : a.data.toList ≠ b.data.toList) : (a.toList == b.toList) = false := by
  rw [Lib.toList_data, Lib.toList_data]; simpa using h

/-- No parameter of E has a slot of x. -/
def noClash (x : Par) (E : List Par) : Prop := ∀ e ∈ E, ∀ s ∈ slotsOf x, (slotsOf e).contains s = false
theorem clash_iff (x : Par) (size : Int) (E : List Par) (hE : ∀ e ∈ E, ParGood size e) : ((E.flatMap slotsOf).contains x.slot = true ∨ (E.flatMap slotsOf).contains x.fine = true) ↔ ¬ noClash x E := by
  have h0 : (E.flatMap slotsOf).contains (0 : Int) = false := by
    rw [Bool.eq_false_iff]
    intro h
    have h := List.mem_of_elem_eq_true h
    obtain ⟨e, he, hs⟩ := List.mem_flatMap.1 h
    obtain ⟨_, _, h3, _⟩ := hE e he
    unfold slotsOf at hs
    split at hs
    · simp at hs; omega
    · rename_i hf
      simp at hs
      rcases hs with hs | hs
      · omega
      · exact hf hs.symm
  have key : ∀ s : Int, (E.flatMap slotsOf).contains s = true ↔ ∃ e ∈ E, (slotsOf e).contains s = true := fun s => by
    constructor
    · intro h
      obtain ⟨e, he, hs⟩ := List.mem_flatMap.1 (List.mem_of_elem_eq_true h)
      exact ⟨e, he, List.elem_eq_true_of_mem hs⟩
    · rintro ⟨e, he, hs⟩
      exact List.elem_eq_true_of_mem (List.mem_flatMap.2 ⟨e, he, List.mem_of_elem_eq_true hs⟩)
  unfold noClash
  constructor
  · rintro (h | h) hn
    · obtain ⟨e, he, hs⟩ := (key _).1 h
      have := hn e he x.slot (by unfold slotsOf; split <;> simp)
      rw [this] at hs; cases hs
    · by_cases hf : x.fine = 0
      · rw [hf, h0] at h; cases h
      · obtain ⟨e, he, hs⟩ := (key _).1 h
        have := hn e he x.fine (by unfold slotsOf; rw [if_neg hf]; simp)
        rw [this] at hs; cases hs
  · intro h
    by_cases h1 : (E.flatMap slotsOf).contains x.slot = true
    · exact .inl h1
    by_cases h2 : (E.flatMap slotsOf).contains x.fine = true
    · exact .inr h2
    exfalso
    apply h
    intro e he s hs
    rw [Bool.eq_false_iff]
    intro hc
    have hk := (key s).2 ⟨e, he, hc⟩
    unfold slotsOf at hs
    split at hs
    · simp at hs; subst hs; exact h1 hk
    · simp at hs
      rcases hs with rfl | rfl
      · exact h1 hk
      · exact h2 hk
end Go.Proofs.YtcidldomnifdeaaDoor
