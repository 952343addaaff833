/- strings.Builder: WriteString leaves all blocks alone that are not the builder's own. -/
import Derived.Test.YtcidldomnifdeaaDoorLib
import Derived.Test.YtcidldomnifdeaaDoorBs
import Derived.Test.YtcidldomnifdeaaDoorBl
import Derived.Test.YtcidldomnifdeaaDoorLayB
import Derived.Shelf.Strings.Builder1
namespace Go.Proofs.YtcidldomnifdeaaDoor
open Go.RowKit Go.Lib Go.Sort

/-- A builder, with the row that it has. -/
def BldV (B b : Nat) (p v : Value) (l : List UInt8) (w : World) : Prop :=
  B ≤ b ∧ w.heap[b]? = some (.cells #[p, v] 59 (0, 0)) ∧ w.ownsRow B 5 1 v (byteCells l).length (byteCells l) ∧ v.ownBlock ≠ some b ∧ (p = .pointer none ∨ p = .pointer (some ⟨b, 0, none⟩))
theorem BldV.lt {B b : Nat} {p v : Value} {l : List UInt8} {w : World} (h : BldV B b p v l w) : b < w.heap.size := by
  rcases Nat.lt_or_ge b w.heap.size with hlt | hge
  · exact hlt
  · have := h.2.1; rw [Array.getElem?_eq_none hge] at this; cases this
theorem BldV.row_lt {B b : Nat} {p v : Value} {l : List UInt8} {w : World} (h : BldV B b p v l w) (k : Nat) (hk : v.ownBlock = some k) : B ≤ k ∧ k < w.heap.size := World.ownsRow.lt h.2.2.1 k hk
theorem BldV.is {B b : Nat} {p v : Value} {l : List UInt8} {w : World} (h : BldV B b p v l w) : IsBuilder 59 5 B b (byteCells l) w := by
  obtain ⟨h1, h2, h3, h4, rfl | rfl⟩ := h
  · exact .inl ⟨h1, v, h2, h3, h4⟩
  · exact .inr ⟨h1, v, h2, h3, h4⟩
theorem BldV.bl {B b : Nat} {p v : Value} {l : List UInt8} {w w' : World} (h : BldV B b p v l w) (g : Bl w w') : BldV B b p v l w' := by
  obtain ⟨h1, h2, h3, h4, h5⟩ := h
  refine ⟨h1, ?_, ?_, h4, h5⟩
  · rw [g.block b (by rcases Nat.lt_or_ge b w.heap.size with hlt | hge; · exact hlt
                      · rw [Array.getElem?_eq_none hge] at h2; cases h2)]; exact h2
  · exact World.ownsRow.kept (row := none) h3 ⟨g.os, g.tape, g.output, g.size, fun k hk _ => g.block k hk⟩ (by cases v.ownBlock <;> simp)
theorem BldV.new (w : World) : BldV w.heap.size w.heap.size (.pointer none) (.slice none 0 0) [] (w.alloc (.cells #[.pointer none, .slice none 0 0] 59)) :=
  ⟨Nat.le_refl _, heap_alloc_new w _, ⟨rfl, .inl ⟨rfl, rfl⟩⟩, by simp [Value.ownBlock], .inl rfl⟩
/-- What WriteString does: the builder has more bytes; all other blocks are as they were. -/
def Wrote (B b : Nat) (v : Value) (l : List UInt8) (w w' : World) : Prop :=
  (∃ v', BldV B b (.pointer (some ⟨b, 0, none⟩)) v' l w') ∧ Below B w w' ∧ ∀ k, k < w.heap.size → k ≠ b → v.ownBlock ≠ some k → w'.heap[k]? = w.heap[k]?
theorem Wrote.cel {B b n : Nat} {v : Value} {l : List UInt8} {W0 W' w8 : World} (h : Wrote B b v l W' w8) (g : Bl W0 W') (hn : n < W0.heap.size) (hb : n ≠ b) (hv : v.ownBlock ≠ some n) {j : Nat} {u : Value} (c : W0.cell? ⟨n, j, none⟩ = some u) : w8.cell? ⟨n, j, none⟩ = some u := by
  have h1 := h.2.2 n (Nat.lt_of_lt_of_le hn g.size) hb hv
  rw [World.cell?_of_block h1]
  exact g.cell c
theorem Wrote.bl {B b : Nat} {v : Value} {l : List UInt8} {w W' w8 : World} (h : Wrote B b v l W' w8) (g : Bl w W') (hB : w.heap.size ≤ B) : Bl w w8 := Below.trans g (Below.mono h.2.1 hB)
theorem check_used (B b : Nat) (p v : Value) (l : List UInt8) (w : World) (h : BldV B b p v l w) :
    Calls Tryd.prog 59 #[.pointer (some ⟨b, 0, none⟩)] w fun e w' => e = .returned (.tuple #[]) ∧ BldV B b (.pointer (some ⟨b, 0, none⟩)) v l w' ∧ Below B w w' ∧ w'.heap.size = w.heap.size ∧ ∀ k, k ≠ b → w'.heap[k]? = w.heap[k]? := by
  obtain ⟨h1, h2, h3, h4, rfl | rfl⟩ := h
  · have hb : BuilderAt 59 5 B b (.pointer none) (byteCells l) w := ⟨h1, v, h2, h3, h4⟩
    refine (Any.Builder_copyCheck_fresh (ρ := renB) laysB extraB b w hb.cell0 hb.shape hb.frozen0).mono ?_
    rintro e w' ⟨rfl, rfl⟩
    obtain ⟨_, v', k2, k3, k4⟩ := hb.used (.pointer (some ⟨b, 0, none⟩))
    have e2 : (w.setCell ⟨b, 0, none⟩ (.pointer (some ⟨b, 0, none⟩))).heap[b]? = some (.cells #[.pointer (some ⟨b, 0, none⟩), v] 59 (0, 0)) := by
      simp [World.setCell, Array.getElem?_modify, h2]
    rw [e2] at k2
    obtain rfl : v = v' := by simpa using k2
    refine ⟨rfl, ⟨h1, e2, k3, h4, .inr rfl⟩, (Below.refl B w).setCell (p := ⟨b, 0, none⟩) h1 _, by simp, fun k hk => Below.heap_setCell _ _ _ _ (fun e => hk (by simp [e]))⟩
  · have hb : BuilderAt 59 5 B b (.pointer (some ⟨b, 0, none⟩)) (byteCells l) w := ⟨h1, v, h2, h3, h4⟩
    refine (Any.Builder_copyCheck_used (ρ := renB) laysB extraB b w hb.cell0).mono ?_
    rintro e w' ⟨rfl, rfl⟩
    exact ⟨rfl, ⟨h1, h2, h3, h4, .inr rfl⟩, Below.refl B w', rfl, fun _ _ => rfl⟩
theorem cells_app (l : List UInt8) (s : ByteArray) : byteCells l ++ strCells s = byteCells (l ++ s.data.toList) := by
  simp [byteCells, strCells]
theorem infoB : (Tryd.prog.info? 5).map (fun i => (i.zero, i.size, i.bytes)) = some (some (.int .u8 0), 1, 1) := by kernel_rfl
set_option maxHeartbeats 1600000 in
theorem write_any (B b : Nat) (p v : Value) (l : List UInt8) (s : ByteArray) (w : World) (h : BldV B b p v l w) (hlen : l.length + s.size ≤ 140737488355328) (hBw : B ≤ w.heap.size) :
    Calls Tryd.prog 26 #[.pointer (some ⟨b, 0, none⟩), .string s] w fun e w' => e = .returned (.tuple #[.int .i64 s.size, .nilIface]) ∧ Wrote B b v (l ++ s.data.toList) w w' := by
  obtain ⟨i0, hi, hz0, hz1, hz2⟩ := info_parts infoB
  have HC := Lib.hid (check_used B b p v l w h)
  have hln : (byteCells l).length = l.length := by simp [byteCells]
  clear h
  go_enter Tryd.func26, Tryd.ntmps26
  go_wp2_with (go_at_call 59; refine HC.out.mono ?_)
  rintro e w1 ⟨rfl, ⟨hB, hbk, hown, hne, _⟩, hb1, hsz, hkept⟩
  have c0 : w1.cell? ⟨b, 0, none⟩ = some (.pointer (some ⟨b, 0, none⟩)) := by rw [Lib.cell_of_heap hbk]; rfl
  have c1 : w1.cell? ⟨b, 1, none⟩ = some v := by rw [Lib.cell_of_heap hbk]; rfl
  go_wp2_with (at_builtin; refine Lib.wpList_append_own_string _ rfl _ _ 57 9 rfl B 5 i0 Tryd.underlying57 Tryd.underlying9 hi hz0 hz1 hz2 _ _ _ rfl hown s rfl ?c3 ?c4 ?c5 ?_)
  case c3 => unfold maxLen; omega
  case c4 => omega
  case c5 => omega
  intro v' w2 hown' hgrow _
  have hlt : b < w1.heap.size := by
    rcases Nat.lt_or_ge b w1.heap.size with h' | h'
    · exact h'
    · simp [Array.getElem?_eq_none h'] at hbk
  have hb2 : w2.heap[b]? = some (.cells #[.pointer (some ⟨b, 0, none⟩), v] 59 (0, 0)) := by
    rw [hgrow.block b hlt (fun e => hne e.symm)]
    exact hbk
  have d0 : w2.cell? ⟨b, 0, none⟩ = some (.pointer (some ⟨b, 0, none⟩)) := by rw [Lib.cell_of_heap hb2]; rfl
  have d1 : w2.cell? ⟨b, 1, none⟩ = some v := by rw [Lib.cell_of_heap hb2]; rfl
  have f1 : w2.frozen? ⟨b, 1, none⟩ = false := Lib.frozen_of_heap hb2 1
  obtain ⟨ao, n', cap, rfl⟩ : ∃ ao n' cap, v' = .slice ao n' cap := by
    rcases hown'.2 with ⟨hv, _⟩ | ⟨g, cap, cur, hv, _⟩
    · exact ⟨_, _, _, hv⟩
    · exact ⟨_, _, _, hv⟩
  go_wp2
  go_ret2
  have hput := Lib.BuilderAt.put (T := 59) (e := 5) hB hb2 (bs' := byteCells l ++ strCells s) (by rw [List.length_append, Lib.strCells_length, hln]; exact hown') (by decide)
  obtain ⟨k1, v2, k2, k3, k4⟩ := hput
  rw [cells_app] at k3
  have g2 := (hb1.grown hgrow (by omega) (fun k hk => (hown.lt k hk).1)).setCell (p := ⟨b, 1, none⟩) hB (.slice ao n' cap)
  refine ⟨rfl, ⟨v2, k1, k2, k3, k4, .inr rfl⟩, g2, fun k hk hkb hkv => ?_⟩
  rw [Below.heap_setCell _ _ _ _ (fun e => hkb (by simp [e])), hgrow.block k (by omega) (fun e => hkv e.symm), hkept k hkb]
end Go.Proofs.YtcidldomnifdeaaDoor
