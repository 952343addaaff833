/- What 'shape' returns: the function of a right curve. -/
import Derived.Test.YtdienaigmkaheaaAlong
namespace Go.Proofs.Ytdienaigmkaheaa
open Go.RowKit Go.Sort

def wN (k : Int) (l : List (Int × Int)) (p q : Int) : Int :=
  if k = 2 then p * p else if k = 3 then q * q - (q - p) * (q - p) else if k = 4 then p * p * (3 * q - 2 * p) else if k = 5 then p / q else if k = 6 then (tab (l[0]?.getD (0, 0)) (l.drop 1) p q).1 else p
def wD (k : Int) (l : List (Int × Int)) (p q : Int) : Int :=
  if k = 2 then q * q else if k = 3 then q * q else if k = 4 then q * q * q else if k = 5 then 1 else if k = 6 then (tab (l[0]?.getD (0, 0)) (l.drop 1) p q).2 else q

/-- v is the function of the curve. -/
def WayFn (w : World) (k : Int) (l : List (Int × Int)) (v : Value) : Prop := ∃ (g : Nat) (cb : Array Value), v = .func (.func g) #[] cb ∧ (∀ args w1, (callFunc g args).run Try.prog w1 = .ok (.enter g args) w1) ∧
  ∀ w1 p q, Bl w w1 → 0 ≤ p → p ≤ q → 1 ≤ q → q ≤ 36000000 → Calls Try.prog g (#[.int .i64 p, .int .i64 q] ++ cb) w1 (PRa (wN k l p q) (wD k l p q) w1)
theorem WayFn.gr {w w' : World} {k : Int} {l : List (Int × Int)} {v : Value} (h : WayFn w k l v) (g : Gr w w') : WayFn w' k l v := by
  obtain ⟨f, cb, h1, h2, h3⟩ := h
  exact ⟨f, cb, h1, h2, fun w1 p q hg => h3 w1 p q (g.bl.trans hg)⟩
theorem WayFn.bl {w w' : World} {k : Int} {l : List (Int × Int)} {v : Value} (h : WayFn w k l v) (g : Bl w w') : WayFn w' k l v := by
  obtain ⟨f, cb, h1, h2, h3⟩ := h
  exact ⟨f, cb, h1, h2, fun w1 p q hg => h3 w1 p q (g.trans hg)⟩

/-- A right curve, as the world holds it. -/
structure CurveAt (w : World) (k : Int) (l : List (Int × Int)) (sv : Value) : Prop where
  lo : 1 ≤ k
  hi : k ≤ 6
  tab : k = 6 → OkTab l ∧ ∃ b off cap, sv = .slice (some ⟨b, off, none⟩) l.length cap ∧ Pts w b off l
theorem CurveAt.gr {w w' : World} {k : Int} {l : List (Int × Int)} {sv : Value} (h : CurveAt w k l sv) (g : Gr w w') : CurveAt w' k l sv :=
  ⟨h.lo, h.hi, fun e => by obtain ⟨h1, b, off, cap, h2, h3⟩ := h.tab e; exact ⟨h1, b, off, cap, h2, h3.gr g⟩⟩

def PShape (w : World) (k : Int) (l : List (Int × Int)) (e : Ending) (w' : World) : Prop := ∃ v, e = .returned v ∧ WayFn w' k l v ∧ Gr w w'

set_option maxHeartbeats 800000 in
theorem table_fn (bc : Nat) (b off cap : Nat) (l : List (Int × Int)) (p q : Int) (w : World) (hc1 : w.cell? ⟨bc, 1, none⟩ = some (.slice (some ⟨b, off, none⟩) l.length cap)) (hP : Pts w b off l) (hT : OkTab l) (p0 : 0 ≤ p) (p1 : p ≤ q) (q0 : 1 ≤ q) (q1 : q ≤ 36000000) :
    Calls Try.prog 50 (#[.int .i64 p, .int .i64 q] ++ #[.pointer (some ⟨bc, 0, none⟩)]) w (PRa (tab (l[0]?.getD (0, 0)) (l.drop 1) p q).1 (tab (l[0]?.getD (0, 0)) (l.drop 1) p q).2 w) := by
  have hA := fun w' (hg : Gr w w') => along_any b off cap l p q w' (hP.gr hg) hT p0 p1 q0 q1
  have HA := Lib.hid hA
  have hbc := World.block_lt_of_cell? _ _ hc1
  simp only at hbc
  clear hA hP hT
  go_enter Try.func50, Try.ntmps50
  go_wp2_with fail
  refine (HA.out _ ((Gr.refl w).alloc _)).mono ?_
  rintro e w2 ⟨nh', nl', dh', dl', rfl, HH', hgg⟩
  obtain ⟨k0, k1, k2, k3⟩ := own4 hgg
  have f0 := own4f hgg 0
  have f1 := own4f hgg 1
  have f2 := own4f hgg 2
  have f3 := own4f hgg 3
  go_wp2_with fail
  refine bodyPost_ret (v := .agg #[.int .u64 nh', .int .u64 nl', .int .u64 dh', .int .u64 dl']) (by simp [results, Try.results50, go_sem, k0, k1, k2, k3]) rfl ⟨_, _, _, _, rfl, HH', ?_⟩
  exact (((((((Gr.refl w).alloc _).trans hgg).setCell (Nat.le_refl _) _).setCell (Nat.le_refl _) _).setCell (Nat.le_refl _) _).setCell (Nat.le_refl _) _)

set_option maxHeartbeats 800000 in
theorem shape_any (k : Int) (l : List (Int × Int)) (sv : Value) (w : World) (h : CurveAt w k l sv) :
    Calls Try.prog 29 #[.agg #[.int .i64 k, sv]] w (PShape w k l) := by
  have H := Lib.hid h
  have hk : k = 1 ∨ k = 2 ∨ k = 3 ∨ k = 4 ∨ k = 5 ∨ k = 6 := by have := h.lo; have := h.hi; omega
  clear h
  rcases hk with rfl | rfl | rfl | rfl | rfl | rfl
  all_goals
    go_enter Try.func29, Try.ntmps29
    go_wp2
    go_returns
  · exact ⟨_, rfl, ⟨_, _, rfl, enters_of Try.func18 (by kernel_rfl) rfl, fun w1 p q _ p0 p1 q0 q1 => share_any p q w1 p0 (by omega) (by omega) (by omega)⟩, (Gr.refl w).alloc _⟩
  · exact ⟨_, rfl, ⟨_, _, rfl, enters_of Try.func46 (by kernel_rfl) rfl, fun w1 p q _ p0 p1 q0 q1 => slow_any p q w1 p0 p1 q1⟩, (Gr.refl w).alloc _⟩
  · exact ⟨_, rfl, ⟨_, _, rfl, enters_of Try.func47 (by kernel_rfl) rfl, fun w1 p q _ p0 p1 q0 q1 => fast_any p q w1 p0 p1 q1⟩, (Gr.refl w).alloc _⟩
  · exact ⟨_, rfl, ⟨_, _, rfl, enters_of Try.func48 (by kernel_rfl) rfl, fun w1 p q _ p0 p1 q0 q1 => soft_any p q w1 p0 p1 q1⟩, (Gr.refl w).alloc _⟩
  · exact ⟨_, rfl, ⟨_, _, rfl, enters_of Try.func49 (by kernel_rfl) rfl, fun w1 p q _ p0 p1 q0 q1 => step_any p q w1 p0 p1 q0 q1⟩, (Gr.refl w).alloc _⟩
  · obtain ⟨hT, b, off, cap, rfl, hP⟩ := H.out.tab rfl
    exact ⟨_, rfl, ⟨_, _, rfl, enters_of Try.func50 (by kernel_rfl) rfl, fun w1 p q hg p0 p1 q0 q1 => table_fn w.heap.size b off cap l p q w1 (hg.cell (by simp)) (hP.bl (((Bl.refl w).alloc _).trans hg)) hT p0 p1 q0 q1⟩, (Gr.refl w).alloc _⟩
end Go.Proofs.Ytdienaigmkaheaa
