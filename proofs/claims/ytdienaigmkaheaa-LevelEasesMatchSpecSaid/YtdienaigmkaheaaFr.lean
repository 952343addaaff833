/- The reference's fractions: what they are; Whole, Part, Opposite, Zero, reduced. -/
import Derived.Test.YtdienaigmkaheaaNatR
import Derived.Deep.RegionHeld3
namespace Go.Proofs.Ytdienaigmkaheaa
open Go.RowKit

/-- v is the fraction p / q. -/
def Fr (w : World) (v : Value) (p q : Int) : Prop := ∃ (neg : Bool) (o1 : Option Addr) (l1 c1 : Nat) (o2 : Option Addr) (l2 c2 : Nat), v = .agg #[.bool neg, .slice o1 l1 c1, .slice o2 l2 c2] ∧
  NatAt w (.slice o1 l1 c1) p.natAbs ∧ NatAt w (.slice o2 l2 c2) q ∧ 0 < q ∧ (p ≠ 0 → neg = decide (p < 0))
theorem Fr.bl {w w' : World} {v : Value} {p q : Int} (h : Fr w v p q) (g : Bl w w') : Fr w' v p q := by
  obtain ⟨neg, o1, l1, c1, o2, l2, c2, h1, h2, h3, h4⟩ := h
  exact ⟨neg, o1, l1, c1, o2, l2, c2, h1, h2.bl g, h3.bl g, h4⟩
def PFr (p q : Int) (w : World) (e : Ending) (w' : World) : Prop := ∃ v, e = .returned v ∧ Fr w' v p q ∧ Bl w w'
theorem NatAt.form {w : World} {v : Value} {N : Int} (h : NatAt w v N) : ∃ o l c, v = .slice o l c := by
  obtain ⟨xs, ⟨o, c, h1, _⟩, _⟩ := h; exact ⟨o, _, c, h1⟩
theorem NatAt.len {w : World} {o : Option Addr} {l c : Nat} {N : Int} (h : NatAt w (.slice o l c) N) (k : Nat) (hN : N < pw k) : l ≤ k := by
  obtain ⟨xs, ⟨o', c', h1, _⟩, h2, h3, rfl⟩ := h
  simp only [Value.slice.injEq] at h1
  obtain ⟨_, rfl, _⟩ := h1
  exact len_le xs h2 h3 k hN
theorem NatAt.zero {w : World} {o : Option Addr} {l c : Nat} {N : Int} (h : NatAt w (.slice o l c) N) : N = 0 ↔ l = 0 := by
  obtain ⟨xs, ⟨o', c', h1, _⟩, h2, h3, rfl⟩ := h
  simp only [Value.slice.injEq] at h1
  obtain ⟨_, rfl, _⟩ := h1
  rw [val_zero xs h2 h3]
  exact ⟨fun h => by subst h; rfl, fun h => List.eq_nil_of_length_eq_zero h⟩
theorem NatAt.nonneg {w : World} {v : Value} {N : Int} (h : NatAt w v N) : 0 ≤ N := by
  obtain ⟨xs, _, h2, _, rfl⟩ := h; exact (val_bd xs h2).1

/-- The cells of a local of three cells. -/
theorem own3 {W W' : World} {n : Nat} {a b c : Value} {t : TypeId} (hn : n = W.heap.size) (h : Bl (W.alloc (.cells #[a, b, c] t)) W') : W'.cell? ⟨n, 0, none⟩ = some a ∧ W'.cell? ⟨n, 1, none⟩ = some b ∧ W'.cell? ⟨n, 2, none⟩ = some c := by
  subst hn; exact ⟨h.cell (by simp), h.cell (by simp), h.cell (by simp)⟩
theorem own3f {W W' : World} {n : Nat} {a b c : Value} {t : TypeId} (hn : n = W.heap.size) (h : Bl (W.alloc (.cells #[a, b, c] t)) W') : W'.frozen? ⟨n, 0, none⟩ = false ∧ W'.frozen? ⟨n, 1, none⟩ = false ∧ W'.frozen? ⟨n, 2, none⟩ = false := by
  subst hn; exact ⟨by rw [h.frozen (by simp)]; simp, by rw [h.frozen (by simp)]; simp, by rw [h.frozen (by simp)]; simp⟩
/-- There is no int in it. -/
theorem own3_int {W W' : World} {n : Nat} {x : Bool} {t : TypeId} (hn : n = W.heap.size) (h : Bl (W.alloc (.cells #[.bool x, .slice none 0 0, .slice none 0 0] t)) W') (j : Nat) (z : Int) : W'.cell? ⟨n, j, none⟩ ≠ some (.int .i64 z) := by
  subst hn
  have e : W'.cell? ⟨W.heap.size, j, none⟩ = (W.alloc (.cells #[.bool x, .slice none 0 0, .slice none 0 0] t)).cell? ⟨W.heap.size, j, none⟩ := Below.cell h (by simp)
  rw [e]
  match j with
  | 0 => simp
  | 1 => simp
  | 2 => simp
  | j + 3 => simp

/-- The result's cells, written. -/
def set3 (W' : World) (n : Nat) (x y z : Value) : World := ((W'.setCell ⟨n, 0, none⟩ x).setCell ⟨n, 1, none⟩ y).setCell ⟨n, 2, none⟩ z
theorem nat_set3 {W W' : World} {n : Nat} {b : Bool} {t : TypeId} (hn : n = W.heap.size) (h : Bl (W.alloc (.cells #[.bool b, .slice none 0 0, .slice none 0 0] t)) W') {v : Value} {N : Int} (hN : NatAt W' v N) (x y z : Value) : NatAt (set3 W' n x y z) v N := by
  obtain ⟨xs, ⟨o, c, h1, h2, h3⟩, h4⟩ := hN
  refine ⟨xs, ⟨o, c, h1, h2, fun i hi => ?_⟩, h4⟩
  obtain ⟨b', off, ho, hc⟩ := h3 i hi
  refine ⟨b', off, ho, ?_⟩
  have hne : b' ≠ n := by
    intro e
    subst e
    exact own3_int hn h _ _ hc
  unfold set3
  rw [World.cell?_of_block (Below.heap_setCell _ _ _ _ hne), World.cell?_of_block (Below.heap_setCell _ _ _ _ hne), World.cell?_of_block (Below.heap_setCell _ _ _ _ hne)]
  exact hc
theorem set3_bl {w0 W W' : World} {n : Nat} {o : Obj} (hn : n = W.heap.size) (h : Bl (W.alloc o) W') (h0 : Bl w0 W) (x y z : Value) : Bl w0 (set3 W' n x y z) := by
  have hs := h0.size
  exact ((((h0.alloc o).trans h).setCell (p := ⟨n, 0, none⟩) (by simp; omega) x).setCell (p := ⟨n, 1, none⟩) (by simp; omega) y).setCell (p := ⟨n, 2, none⟩) (by simp; omega) z
theorem fr_done {w0 W W' : World} {n : Nat} {b : Bool} {t : TypeId} (hn : n = W.heap.size) (h : Bl (W.alloc (.cells #[.bool b, .slice none 0 0, .slice none 0 0] t)) W') (h0 : Bl w0 W) {neg : Bool} {o1 : Option Addr} {l1 c1 : Nat} {o2 : Option Addr} {l2 c2 : Nat} {p q : Int}
    (h1 : NatAt W' (.slice o1 l1 c1) p.natAbs) (h2 : NatAt W' (.slice o2 l2 c2) q) (hq : 0 < q) (hs : p ≠ 0 → neg = decide (p < 0)) :
    PFr p q w0 (.returned (.agg #[.bool neg, .slice o1 l1 c1, .slice o2 l2 c2])) (set3 W' n (.bool neg) (.slice o1 l1 c1) (.slice o2 l2 c2)) :=
  ⟨_, rfl, ⟨neg, o1, l1, c1, o2, l2, c2, rfl, nat_set3 hn h h1 _ _ _, nat_set3 hn h h2 _ _ _, hq, hs⟩, set3_bl hn h h0 _ _ _⟩

set_option maxHeartbeats 800000 in
theorem part_any (a b : Int) (w : World) (a0 : 0 ≤ a) (a1 : a ≤ 9223372036854775807) (b0 : 0 < b) (b1 : b ≤ 9223372036854775807) :
    Calls Try.prog 21 #[.int .i64 a, .int .i64 b] w (PFr a b w) := by
  have hab : Hid ((a.natAbs : Int) = a ∧ decide (a < 0) = false) := ⟨by omega, by simpa using a0⟩
  go_enter Try.func21, Try.ntmps21
  go_wp2_with fail
  refine (small_any a _ a0 a1).mono ?_
  rintro e w1 ⟨v1, rfl, h1, g1⟩
  obtain ⟨o1, l1, c1, rfl⟩ := h1.form
  have H1 := Lib.hid h1
  clear h1
  go_wp2_with fail
  refine (small_any b _ (by omega) b1).mono ?_
  rintro e w2 ⟨v2, rfl, h2, g2⟩
  obtain ⟨o2, l2, c2, rfl⟩ := h2.form
  have H2 := Lib.hid h2
  clear h2
  obtain ⟨k0, k1, k2⟩ := own3 rfl (g1.trans g2)
  obtain ⟨f0, f1, f2⟩ := own3f rfl (g1.trans g2)
  go_wp2_with fail
  refine bodyPost_ret (v := .agg #[.bool false, .slice o1 l1 c1, .slice o2 l2 c2]) (by simp [results, Try.results21, go_sem, k0, k1, k2]) rfl ?_
  exact fr_done rfl (g1.trans g2) (Bl.refl w) (by rw [hab.out.1]; exact H1.out.bl g2) H2.out b0 (fun _ => hab.out.2.symm)

set_option maxHeartbeats 800000 in
theorem whole_any (n : Int) (w : World) (n0 : -9223372036854775807 ≤ n) (n1 : n ≤ 9223372036854775807) :
    Calls Try.prog 43 #[.int .i64 n] w (PFr n 1 w) := by
  by_cases hn : n < 0
  · have hab : Hid ((n.natAbs : Int) = -n ∧ decide (n < 0) = true) := ⟨by omega, by simpa using hn⟩
    go_enter Try.func43, Try.ntmps43
    go_wp2_with fail
    refine (small_any (-n) _ (by omega) (by omega)).mono ?_
    rintro e w1 ⟨v1, rfl, h1, g1⟩
    obtain ⟨o1, l1, c1, rfl⟩ := h1.form
    have H1 := Lib.hid h1
    clear h1
    go_wp2_with fail
    refine (small_any 1 _ (by omega) (by omega)).mono ?_
    rintro e w2 ⟨v2, rfl, h2, g2⟩
    obtain ⟨o2, l2, c2, rfl⟩ := h2.form
    have H2 := Lib.hid h2
    clear h2
    obtain ⟨k0, k1, k2⟩ := own3 rfl (g1.trans g2)
    obtain ⟨f0, f1, f2⟩ := own3f rfl (g1.trans g2)
    go_wp2_with fail
    refine bodyPost_ret (v := .agg #[.bool true, .slice o1 l1 c1, .slice o2 l2 c2]) (by simp [results, Try.results43, go_sem, k0, k1, k2]) rfl ?_
    exact fr_done rfl (g1.trans g2) (Bl.refl w) (by rw [hab.out.1]; exact H1.out.bl g2) H2.out (by omega) (fun _ => hab.out.2.symm)
  · have hab : Hid ((n.natAbs : Int) = n ∧ decide (n < 0) = false) := ⟨by omega, by simpa using hn⟩
    go_enter Try.func43, Try.ntmps43
    go_wp2_with fail
    refine (small_any n _ (by omega) (by omega)).mono ?_
    rintro e w1 ⟨v1, rfl, h1, g1⟩
    obtain ⟨o1, l1, c1, rfl⟩ := h1.form
    have H1 := Lib.hid h1
    clear h1
    go_wp2_with fail
    refine (small_any 1 _ (by omega) (by omega)).mono ?_
    rintro e w2 ⟨v2, rfl, h2, g2⟩
    obtain ⟨o2, l2, c2, rfl⟩ := h2.form
    have H2 := Lib.hid h2
    clear h2
    obtain ⟨k0, k1, k2⟩ := own3 rfl (g1.trans g2)
    obtain ⟨f0, f1, f2⟩ := own3f rfl (g1.trans g2)
    go_wp2_with fail
    refine bodyPost_ret (v := .agg #[.bool false, .slice o1 l1 c1, .slice o2 l2 c2]) (by simp [results, Try.results43, go_sem, k0, k1, k2]) rfl ?_
    exact fr_done rfl (g1.trans g2) (Bl.refl w) (by rw [hab.out.1]; exact H1.out.bl g2) H2.out (by omega) (fun _ => hab.out.2.symm)

set_option maxHeartbeats 800000 in
theorem reduced_any (v : Value) (p q : Int) (w : World) (h : Fr w v p q) (hp : (p.natAbs : Int) < pw 5) (hq : q < pw 6) :
    Calls Try.prog 60 #[v] w (PFr p q w) := by
  obtain ⟨neg, o1, l1, c1, o2, l2, c2, rfl, h1, h2, h3, h4⟩ := h
  have e1 := h1.len 5 hp
  have e2 := h2.len 6 hq
  have H := Lib.hid (And.intro h1 (And.intro h2 (And.intro h3 h4)))
  clear h1 h2 h3 h4 hp hq
  go_enter Try.func60, Try.ntmps60
  go_wp2_with fail
  refine bodyPost_ret (v := .agg #[.bool neg, .slice o1 l1 c1, .slice o2 l2 c2]) (by simp [results, Try.results60, go_sem]) rfl ?_
  exact ⟨_, rfl, ⟨neg, o1, l1, c1, o2, l2, c2, rfl, H.out.1.bl (((Bl.refl w).alloc _).alloc _), H.out.2.1.bl (((Bl.refl w).alloc _).alloc _), H.out.2.2⟩, ((Bl.refl w).alloc _).alloc _⟩

set_option maxHeartbeats 800000 in
theorem opposite_any (v : Value) (p q : Int) (w : World) (h : Fr w v p q) :
    Calls Try.prog 68 #[v] w (PFr (-p) q w) := by
  obtain ⟨neg, o1, l1, c1, o2, l2, c2, rfl, h1, h2, h3, h4⟩ := h
  have H := Lib.hid (And.intro h1 (And.intro h2 (And.intro h3 h4)))
  clear h1 h2 h3 h4
  go_enter Try.func68, Try.ntmps68
  go_wp2_with fail
  refine bodyPost_ret (v := .agg #[.bool (!neg), .slice o1 l1 c1, .slice o2 l2 c2]) (by simp [results, Try.results68, go_sem]) rfl ?_
  refine ⟨_, rfl, ⟨!neg, o1, l1, c1, o2, l2, c2, rfl, ?_, H.out.2.1.bl (((Bl.refl w).alloc _).alloc _), H.out.2.2.1, fun hp => ?_⟩, ((Bl.refl w).alloc _).alloc _⟩
  · rw [Int.natAbs_neg]; exact H.out.1.bl (((Bl.refl w).alloc _).alloc _)
  · rw [H.out.2.2.2 (by omega)]
    rw [Bool.eq_iff_iff]
    simp
    omega

set_option maxHeartbeats 800000 in
theorem zero_any (v : Value) (p q : Int) (w : World) (h : Fr w v p q) :
    Calls Try.prog 69 #[v] w fun e w' => e = .returned (.bool (p == 0)) ∧ Bl w w' := by
  obtain ⟨neg, o1, l1, c1, o2, l2, c2, rfl, h1, h2, h3, h4⟩ := h
  have hz : Hid (((l1 : Int) == 0) = (p == 0)) := by
    show _ = _
    have := h1.zero
    rw [Bool.eq_iff_iff]
    simp
    omega
  clear h1 h2 h3 h4
  go_enter Try.func69, Try.ntmps69
  go_wp2_with fail
  go_returns
  exact ⟨ret_val (by rw [← hz.out]; rfl), (Bl.refl w).alloc _⟩

/-- Two parameters of three cells. -/
theorem own22 (w : World) (t : TypeId) (a b c x y z : Value) {W' : World} (h : Bl ((w.alloc (.cells #[a, b, c] t)).alloc (.cells #[x, y, z] t)) W') :
    W'.cell? ⟨w.heap.size, 0, none⟩ = some a ∧ W'.cell? ⟨w.heap.size, 1, none⟩ = some b ∧ W'.cell? ⟨w.heap.size, 2, none⟩ = some c ∧ W'.cell? ⟨w.heap.size + 1, 0, none⟩ = some x ∧ W'.cell? ⟨w.heap.size + 1, 1, none⟩ = some y ∧ W'.cell? ⟨w.heap.size + 1, 2, none⟩ = some z := by
  have h1 : Bl (w.alloc (.cells #[a, b, c] t)) W' := ((Bl.refl _).alloc _).trans h
  obtain ⟨e1, e2, e3⟩ := own3 rfl h1
  obtain ⟨e4, e5, e6⟩ := own3 (n := w.heap.size + 1) (by simp) h
  exact ⟨e1, e2, e3, e4, e5, e6⟩
theorem mul_lt {a b c d : Int} (h1 : a < c) (h2 : b < d) (ha : 0 ≤ a) (hb : 0 ≤ b) : a * b < c * d :=
  Int.lt_of_le_of_lt (Int.mul_le_mul_of_nonneg_left (Int.le_of_lt h2) ha) (Int.mul_lt_mul_of_pos_right h1 (by omega))
/-- Two parameters of three cells, and a result of three cells. -/
theorem own33 (w : World) (t : TypeId) (a b c x y z r1 r2 r3 : Value) {W' : World} (h : Bl (((w.alloc (.cells #[a, b, c] t)).alloc (.cells #[x, y, z] t)).alloc (.cells #[r1, r2, r3] t)) W') :
    W'.cell? ⟨w.heap.size, 0, none⟩ = some a ∧ W'.cell? ⟨w.heap.size, 1, none⟩ = some b ∧ W'.cell? ⟨w.heap.size, 2, none⟩ = some c ∧ W'.cell? ⟨w.heap.size + 1, 0, none⟩ = some x ∧ W'.cell? ⟨w.heap.size + 1, 1, none⟩ = some y ∧ W'.cell? ⟨w.heap.size + 1, 2, none⟩ = some z := by
  have h1 : Bl (w.alloc (.cells #[a, b, c] t)) W' := (((Bl.refl _).alloc _).alloc _).trans h
  have h2 : Bl ((w.alloc (.cells #[a, b, c] t)).alloc (.cells #[x, y, z] t)) W' := ((Bl.refl _).alloc _).trans h
  obtain ⟨e1, e2, e3⟩ := own3 rfl h1
  obtain ⟨e4, e5, e6⟩ := own3 (n := w.heap.size + 1) (by simp) h2
  exact ⟨e1, e2, e3, e4, e5, e6⟩
end Go.Proofs.Ytdienaigmkaheaa
