/- slices.Backward over the points of a table: what its function gives to a loop. -/
import Derived.RangeFuncNested
import Derived.RangeFuncBound
import Derived.RangeFuncCalls
import Derived.RangeFuncLeaves
import Derived.RangeFuncBox
import Derived.Shelf.Abstract
import Derived.Shelf.RegionOpen
import Derived.OwnWalkIn
import Derived.TacticsInMore
import Derived.LoopNIn
import Derived.LoopIn
import Derived.Maps.OwnIn
import Derived.Test.YtdienaigmkaheaaPairs
import Derived.Test.YtdienaigmkaheaaInvM
namespace Go.Proofs.Ytdienaigmkaheaa
open Go.RowKit Go.Shelf Go.Sort

attribute [local go_sem] Oper.semAt_some

/-- A point of a right table. -/
abbrev PtR := { p : Int × Int // (0 ≤ p.1 ∧ p.1 ≤ 1000) ∧ (0 ≤ p.2 ∧ p.2 ≤ 1000) }
def z0 : PtR := ⟨(0, 0), by decide, by decide⟩
def encB (x : Nat × PtR) : Array Value := #[.int .i64 (x.1 : Int), .agg #[.int .i64 x.2.1.1, .int .i64 x.2.1.2]]
/-- What has come behind k rounds. -/
def downTo (L : List PtR) (k : Nat) : List (Nat × PtR) := (List.range k).map fun j => (L.length - 1 - j, L[L.length - 1 - j]?.getD z0)
theorem downTo_succ (L : List PtR) (k : Nat) : downTo L (k + 1) = downTo L k ++ [(L.length - 1 - k, L[L.length - 1 - k]?.getD z0)] := by simp [downTo, List.range_succ]
theorem downTo_len (L : List PtR) (k : Nat) : (downTo L k).length = k := by simp [downTo]
theorem downTo_all (L : List PtR) : (downTo L L.length).map (fun x => x.2) = L.reverse := by
  apply List.ext_getElem
  · simp [downTo]
  · intro i h1 h2
    have h3 : i < L.length := by simp [downTo] at h1; exact h1
    have h4 : L.length - 1 - i < L.length := by omega
    simp [downTo, h4, List.getElem_reverse]

/-- The blocks Bs and b lie as they lay. -/
def Kp2 (Bs b : Nat) (A B : World) : Prop := B.heap[Bs]? = A.heap[Bs]? ∧ B.heap[b]? = A.heap[b]?
theorem Kp2.refl (Bs b : Nat) (A : World) : Kp2 Bs b A A := ⟨rfl, rfl⟩
theorem Kp2.trans {Bs b : Nat} {A B C : World} (h : Kp2 Bs b A B) (k : Kp2 Bs b B C) : Kp2 Bs b A C := ⟨k.1.trans h.1, k.2.trans h.2⟩
theorem cell_same {A B : World} {b o : Nat} (h : B.heap[b]? = A.heap[b]?) : B.cell? ⟨b, o, none⟩ = A.cell? ⟨b, o, none⟩ := by
  simp only [World.cell?, h]

set_option maxRecDepth 100000 in
set_option maxHeartbeats 2000000 in
theorem back1_in (F : Fence) (n : Nat) (h8 : F.fn 55) (hro : F.round = none) (hn : 1 ≤ n) (l Bs b off cap : Nat) (L : List PtR) (hlen : L.length ≤ 1000000) (J Jx : List (Nat × PtR) → World → Prop)
    (hY : ∀ pre x W, J pre W → pre.length < L.length → YieldAt F (n - 1) Try.prog l (encB x) W fun e W' =>
      (e = .returned (.bool true) ∧ J (pre ++ [x]) W' ∧ Kp2 Bs b W W') ∨ (e = .returned (.bool false) ∧ Jx (pre ++ [x]) W'))
    (W : World) (hBs : W.cell? ⟨Bs, 0, none⟩ = some (.slice (some ⟨b, off, none⟩) L.length cap)) (hc : Pts W b off (L.map Subtype.val)) (h0 : J [] W) :
    CallsIn F n Try.prog 55 #[.func (.yield l) #[] #[], .pointer (some ⟨Bs, 0, none⟩)] W fun e W' => (∃ v, e = .returned v) ∧
      ((∃ ys, ys = downTo L L.length ∧ J ys W') ∨ (∃ pre, True ∧ Jx pre W')) := by
  refine callsIn_of_wp Try.func55 rfl h8 ?_ hro
  simp only [Try.ntmps55, List.size_toArray, List.length_cons, List.length_nil, Nat.reduceAdd, Nat.reduceSub, Array.replicate_succ, Array.replicate_zero, List.push_toArray, List.append_toArray, List.nil_append, List.cons_append]
  have HC := Lib.hid hc
  have HB := Lib.hid hBs
  gi_wp2
  gi_loopw [3] (fun i wr => ∃ k : Nat, k ≤ L.length ∧ i = .int .i64 ((L.length : Int) - 1 - k) ∧ J (downTo L k) wr ∧ Kp2 Bs b W wr)
    (fun i _ => (intOf i + 1).toNat)
  case atStart => exact ⟨0, Nat.zero_le _, by simp, h0, Kp2.refl _ _ _⟩
  case round =>
    obtain ⟨k, hk, rfl, hJs, hnx⟩ := hrel
    clear hBs
    have hBx := (cell_same hnx.1).trans HB.out
    by_cases hlt : k < L.length
    · have hi0 : 0 ≤ (L.length : Int) - 1 - k := by omega
      have hi1 : (L.length : Int) - 1 - k < (L.length : Int) := by omega
      have hi2 : ((L.length : Int) - 1 - k).toNat = L.length - 1 - k := by omega
      have hj : L.length - 1 - k < L.length := by omega
      have hp := HC.out (L.length - 1 - k) (by rw [List.length_map]; exact hj)
      have hx : (L.map Subtype.val)[L.length - 1 - k]?.getD (0, 0) = (L[L.length - 1 - k]?.getD z0).1 := by
        rw [List.getElem?_map, List.getElem?_eq_getElem hj]; rfl
      rw [hx] at hp
      have q0 := (cell_same hnx.2).trans hp.1
      have q1 := (cell_same hnx.2).trans hp.2
      obtain ⟨fn, tmps, assign, body, hy, hR⟩ := hY _ (L.length - 1 - k, L[L.length - 1 - k]?.getD z0) wr hJs (by rw [downTo_len]; exact hlt)
      have hy : ∀ i : Int, i = (L.length : Int) - 1 - k → _ := fun i hi => by
        have := hy
        unfold encB at this
        rw [show (((L.length - 1 - k : Nat)) : Int) = i by omega] at this
        exact this
      replace hy := hy _ rfl
      have HS := Lib.hid (downTo_succ L k)
      clear hp hx
      generalize L[L.length - 1 - k]?.getD z0 = x at *
      gi_wp2
      refine hR.mono ?_
      rintro e W3 (⟨rfl, hJ3, hk3⟩ | ⟨rfl, hJx3⟩)
      · gi_wp2
        go_roundw
        case rel => exact ⟨k + 1, by omega, by first | go_num | (congr 1; omega), by rw [HS.out]; exact hJ3, hnx.trans hk3⟩
        case measure => simp [intOf]; omega
      · gi_wp2
        refine bodyPost_ret (results_none rfl _ _ _) rfl ?_
        exact ⟨⟨_, rfl⟩, .inr ⟨_, trivial, hJx3⟩⟩
    · obtain rfl : k = L.length := by omega
      gi_wp2
      go_end0
      exact ⟨⟨_, rfl⟩, .inl ⟨_, rfl, hJs⟩⟩

set_option maxHeartbeats 1000000 in
theorem backward_in (F : Fence) (n : Nat) (h6 : F.fn 32) (hro : F.round = none) (a : Option Addr) (len cap : Nat) (w : World) :
    CallsIn F n Try.prog 32 #[.slice a len cap] w fun e w' => e = .returned (.func (.func 55) #[] #[.pointer (some ⟨w.heap.size, 0, none⟩)]) ∧ w' = w.alloc (.cells #[.slice a len cap] 30) := by
  refine callsIn_of_wp Try.func32 rfl h6 ?_ hro
  simp only [Try.ntmps32, List.size_toArray, List.length_cons, List.length_nil, Nat.reduceAdd, Nat.reduceSub, Array.replicate_succ, Array.replicate_zero, List.push_toArray, List.append_toArray, List.nil_append, List.cons_append]
  gi_wp2
  go_ret
  exact ⟨rfl, rfl⟩

/-- slices.Backward gives all points from the last to the first. -/
theorem back_stops (F : Fence) (n : Nat) (h8 : F.fn 55) (hro : F.round = none) (hn : 1 ≤ n) (Bs b off cap : Nat) (L : List PtR) (hlen : L.length ≤ 1000000) (w : World) (hBs : Bs < w.heap.size) (hb : b < w.heap.size)
    (hc : w.cell? ⟨Bs, 0, none⟩ = some (.slice (some ⟨b, off, none⟩) L.length cap)) (hP : Pts w b off (L.map Subtype.val)) :
    SeqStopsK F n Try.prog 55 #[.pointer (some ⟨Bs, 0, none⟩)] encB (Kp2 Bs b) (fun ys => ys = downTo L L.length) (fun _ => True) L.length w := fun l J Jx W hW _ _ hY h0 => by
  refine back1_in F n h8 hro hn l Bs b off cap L hlen J Jx hY W ((hW.cell (p := ⟨Bs, 0, none⟩) hBs).trans hc) (fun i hi => ?_) h0
  obtain ⟨h1, h2⟩ := hP i hi
  exact ⟨(hW.cell (p := ⟨b, off + i * 2, none⟩) hb).trans h1, (hW.cell (p := ⟨b, off + i * 2 + 1, none⟩) hb).trans h2⟩
end Go.Proofs.Ytdienaigmkaheaa
