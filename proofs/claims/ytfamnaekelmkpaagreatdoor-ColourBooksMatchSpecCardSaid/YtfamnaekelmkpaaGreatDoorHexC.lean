/- The colour of a text: Read of the program. -/
import Derived.Test.YtfamnaekelmkpaaGreatDoorHexP
import Derived.Test.YtfamnaekelmkpaaGreatDoorLib
import Derived.Test.YtfamnaekelmkpaaGreatDoorCol
import Derived.Test.YtfamnaekelmkpaaGreatDoorOwnG
import Derived.Laws.BitsLemmas
import Derived.Lib.AtoiErrMem
namespace Go.Proofs.YtfamnaekelmkpaaGreatDoor
open Go.RowKit Go.Lib Go.Sort

/-- The variable with the library's error of form holds something. -/
def EvAt (w : World) : Prop := ∃ ev, w.cell? ⟨4, 0, none⟩ = some ev ∧ (ev = .nilIface ∨ ∃ te pe, ev = .iface te pe)
theorem EvAt.bl {w w' : World} (h : EvAt w) (g : Bl w w') : EvAt w' := by
  obtain ⟨ev, h1, h2⟩ := h
  exact ⟨ev, g.cell h1, h2⟩
theorem bytesWorld_bl (w : World) (T : TypeId) (t : ByteArray) : Bl w (Lib.bytesWorld w T t) := Lib.bytesWorld_below w T t
set_option maxRecDepth 100000 in
theorem parseU_ok (t : ByteArray) (n : Nat) (hn : hexVal 0 t.data.toList = some n) (hne : t.size ≠ 0) (hmax : t.size ≤ 12) (w : World) :
    Calls Tryz.prog 59 #[.string t, .int .i64 16, .int .i64 64] w fun e w' => e = .returned (.tuple #[.int .u64 n, .nilIface]) ∧ Bl w w' := by
  have H := Lib.hid (parse16 t hne hmax w)
  rw [hn] at H
  simp only [res16] at H
  clear hn hne hmax
  go_enter Tryz.func59, Tryz.ntmps59
  go_wp2_with (go_at_call 80; refine H.out.mono ?_; rintro e w1 ⟨rfl, rfl⟩)
  go_ret2
  exact ⟨rfl, bytesWorld_bl _ _ _⟩
set_option maxRecDepth 100000 in
theorem parseU_no (t : ByteArray) (hn : hexVal 0 t.data.toList = none) (hne : t.size ≠ 0) (hmax : t.size ≤ 12) (w : World) (hev : EvAt w) :
    Calls Tryz.prog 59 #[.string t, .int .i64 16, .int .i64 64] w fun e w' => (∃ N, e = .returned (.tuple #[.int .u64 0, .iface 127 (.pointer (some ⟨N, 0, none⟩))])) ∧ Bl w w' := by
  have H := Lib.hid (parse16 t hne hmax w)
  rw [hn] at H
  simp only [res16] at H
  have b1 := bytesWorld_bl w 5 t
  obtain ⟨ev, h1, h2⟩ := hev.bl b1
  have HE := Lib.hid (Tryz.strconv_toError_syntax ⟨#[80, 97, 114, 115, 101, 85, 105, 110, 116]⟩ t 16 64 ev _ (by omega) h1 h2)
  clear hn hne hmax hev h1 h2
  go_enter Tryz.func59, Tryz.ntmps59
  go_wp2_with (first
    | (go_at_call 80; refine H.out.mono ?_; rintro e w1 ⟨rfl, rfl⟩)
    | (go_at_call 81; refine HE.out.mono ?_; rintro e w2 ⟨N, rfl, _, _, b2⟩))
  go_ret2
  exact ⟨⟨N, rfl⟩, b1.trans b2⟩

theorem and255 (u : Int) (h0 : 0 ≤ u) (h1 : u < 18446744073709551616) : bits .and .u64 u 255 = u % 256 :=
  bits_mask .u64 64 (by decide) (fun n h0 h1 => by rw [IntKind.wrap_u64]; omega) 8 (by decide) u h0 (by omega)
theorem and65535 (u : Int) (h0 : 0 ≤ u) (h1 : u < 18446744073709551616) : bits .and .u64 u 65535 = u % 65536 :=
  bits_mask .u64 64 (by decide) (fun n h0 h1 => by rw [IntKind.wrap_u64]; omega) 16 (by decide) u h0 (by omega)
set_option maxRecDepth 100000 in
set_option maxHeartbeats 1600000 in
theorem level_short (n j d : Int) (hj : j = 0 ∧ d = 1 ∨ j = 1 ∧ d = 256 ∨ j = 2 ∧ d = 65536) (a b c : Nat) (w : World) (n0 : 0 ≤ n) (n1 : n < 16777216)
    (h1 : w.cell? ⟨a, 0, none⟩ = some (.int .u64 n)) (h2 : w.cell? ⟨b, 0, none⟩ = some (.int .i64 8)) (h3 : w.cell? ⟨c, 0, none⟩ = some (.int .i64 257)) :
    Calls Tryz.prog 60 #[.int .i64 j, .pointer (some ⟨a, 0, none⟩), .pointer (some ⟨b, 0, none⟩), .pointer (some ⟨c, 0, none⟩)] w fun e w' => e = .returned (.int .i64 (n / d % 256 * 257)) ∧ ∃ q, w' = w.drewN q := by
  have e0 := and255 n n0 (by omega)
  have e1 := and255 (n / 256) (by omega) (by omega)
  have e2 := and255 (n / 65536) (by omega) (by omega)
  have eo := Lib.hid (Int.ediv_one n)
  rcases hj with ⟨rfl, rfl⟩ | ⟨rfl, rfl⟩ | ⟨rfl, rfl⟩
  all_goals (
    go_enter Tryz.func60, Tryz.ntmps60
    go_wp2
    go_quiet (fail)
    go_wp2
    go_returns
    first
      | exact ⟨rfl, _, rfl⟩
      | exact ⟨by rw [eo.out]; rfl, _, rfl⟩)
set_option maxRecDepth 100000 in
set_option maxHeartbeats 1600000 in
theorem level_long (n j d : Int) (hj : j = 0 ∧ d = 1 ∨ j = 1 ∧ d = 65536 ∨ j = 2 ∧ d = 4294967296) (a b c : Nat) (w : World) (n0 : 0 ≤ n) (n1 : n < 281474976710656)
    (h1 : w.cell? ⟨a, 0, none⟩ = some (.int .u64 n)) (h2 : w.cell? ⟨b, 0, none⟩ = some (.int .i64 16)) (h3 : w.cell? ⟨c, 0, none⟩ = some (.int .i64 1)) :
    Calls Tryz.prog 60 #[.int .i64 j, .pointer (some ⟨a, 0, none⟩), .pointer (some ⟨b, 0, none⟩), .pointer (some ⟨c, 0, none⟩)] w fun e w' => e = .returned (.int .i64 (n / d % 65536)) ∧ ∃ q, w' = w.drewN q := by
  have e0 := and65535 n n0 (by omega)
  have e1 := and65535 (n / 65536) (by omega) (by omega)
  have e2 := and65535 (n / 4294967296) (by omega) (by omega)
  have eo := Lib.hid (Int.ediv_one n)
  rcases hj with ⟨rfl, rfl⟩ | ⟨rfl, rfl⟩ | ⟨rfl, rfl⟩
  all_goals (
    go_enter Tryz.func60, Tryz.ntmps60
    go_wp2
    go_quiet (fail)
    go_wp2
    go_returns
    first
      | exact ⟨rfl, _, rfl⟩
      | exact ⟨by rw [eo.out]; rfl, _, rfl⟩)

/-- What Read gives. -/
def rdX (l : List UInt8) : Int := match rdC l with
  | some _ => 0
  | none => 9
def rdV (l : List UInt8) : Int × Int × Int := match rdC l with
  | some (a, b, c) => ((a : Int), (b : Int), (c : Int))
  | none => (0, 0, 0)
theorem rd_none {l : List UInt8} (h : rdC l = none) : rdX l = 9 ∧ rdV l = (0, 0, 0) := by unfold rdX rdV; rw [h]; exact ⟨rfl, rfl⟩
theorem rd_some {l : List UInt8} {a b c : Nat} (h : rdC l = some (a, b, c)) : rdX l = 0 ∧ rdV l = ((a : Int), (b : Int), (c : Int)) := by unfold rdX rdV; rw [h]; exact ⟨rfl, rfl⟩
theorem tail_list (t : ByteArray) : (t.extract 1 t.size).data.toList = t.data.toList.drop 1 ∧ (t.extract 1 t.size).size = t.size - 1 := by
  refine ⟨?_, by simp⟩
  rw [Lib.extract_data, List.take_of_length_le]
  rw [List.length_drop, Lib.size_eq]
  omega
theorem own3and1 {w w1 : World} {a b c u : Value} {t t' : TypeId} (h : Bl ((w.alloc (.cells #[a, b, c] t)).alloc (.cells #[u] t')) w1) :
    Bl w w1 ∧ w.heap.size < w1.heap.size ∧ w.heap.size + 1 < w1.heap.size ∧ w1.cell? ⟨w.heap.size, 0, none⟩ = some a ∧ w1.cell? ⟨w.heap.size, 1, none⟩ = some b ∧ w1.cell? ⟨w.heap.size, 2, none⟩ = some c ∧
    w1.frozen? ⟨w.heap.size, 0, none⟩ = false ∧ w1.frozen? ⟨w.heap.size, 1, none⟩ = false ∧ w1.frozen? ⟨w.heap.size, 2, none⟩ = false ∧ w1.cell? ⟨w.heap.size + 1, 0, none⟩ = some u := by
  refine ⟨(((Bl.refl w).alloc _).alloc _).trans h, by have := h.size; simp at this; omega, by have := h.size; simp at this; omega, h.cell (by simp), h.cell (by simp), h.cell (by simp), ?_, ?_, ?_, h.cell (by simp)⟩
  all_goals exact (h.frozen (by simp; omega)).trans (by simp)
theorem st3 {W : World} {n : Nat} {a b c : Value} (q0 : W.cell? ⟨n, 0, none⟩ = some a) (q1 : W.cell? ⟨n, 1, none⟩ = some b) (q2 : W.cell? ⟨n, 2, none⟩ = some c) (x y z : Value) {W' : World}
    (g : Bl (((W.setCell ⟨n, 0, none⟩ x).setCell ⟨n, 1, none⟩ y).setCell ⟨n, 2, none⟩ z) W') :
    W'.cell? ⟨n, 0, none⟩ = some x ∧ W'.cell? ⟨n, 1, none⟩ = some y ∧ W'.cell? ⟨n, 2, none⟩ = some z := by
  refine ⟨g.cell ?_, g.cell ?_, g.cell ?_⟩
  · rw [World.cell?_setCell_other _ _ _ _ (by simp), World.cell?_setCell_other _ _ _ _ (by simp)]; exact World.cell?_setCell_same _ _ _ q0
  · rw [World.cell?_setCell_other _ _ _ _ (by simp)]; refine World.cell?_setCell_same (u := b) _ _ _ ?_; rw [World.cell?_setCell_other _ _ _ _ (by simp)]; exact q1
  · refine World.cell?_setCell_same (u := c) _ _ _ ?_; rw [World.cell?_setCell_other _ _ _ _ (by simp), World.cell?_setCell_other _ _ _ _ (by simp)]; exact q2
theorem head_is (s : ByteArray) (h : 0 < s.size) : s.data.toList.headD 0 = s[0] := by
  have hl : 0 < s.data.toList.length := by simpa using h
  cases e : s.data.toList with
  | nil => rw [e] at hl; exact absurd hl (Nat.lt_irrefl _)
  | cons a t =>
    show a = s.data[0]
    have : s.data.toList[0]'hl = a := by simp [e]
    rw [← this]; simp
set_option maxRecDepth 100000 in
set_option maxHeartbeats 3200000 in
theorem read_col (t : ByteArray) (w : World) (hev : EvAt w) :
    Calls Tryz.prog 39 #[.string t] w fun e w' => e = .returned (.tuple #[colV (rdV t.data.toList).1 (rdV t.data.toList).2.1 (rdV t.data.toList).2.2, .int .i64 (rdX t.data.toList)]) ∧ Bl w w' := by
  have hll := Lib.size_eq t
  by_cases h7 : t.size = 7
  · have h0 : 0 < t.size := by omega
    have hd := head_is t h0
    by_cases h35 : t[0]'h0 = 35
    · obtain ⟨e1, e2⟩ := tail_list t
      have e3 : rdC t.data.toList = hex3 2 257 (t.data.toList.drop 1) := by unfold rdC; rw [hd, if_pos h35, if_pos (by omega)]
      rw [hex3_of (by rw [List.length_drop]; omega), ← e1] at e3
      have hb : ((t[0]'h0).toNat : Int) = 35 := by rw [h35]; rfl
      cases hx : hexVal 0 (t.extract 1 t.size).data.toList with
      | none =>
        rw [hx] at e3
        obtain ⟨r1, r2⟩ := rd_none e3
        rw [r1, r2]
        have HP := Lib.hid (fun w' (m : Bl w w') => parseU_no _ hx (by omega) (by omega) w' (hev.bl m))
        rw [h7] at HP
        clear r1 r2 e1 e2 e3 hx hev hll hd h35
        go_enter Tryz.func39, Tryz.ntmps39
        go_wp2_with (go_at_call 59; refine (HP.out _ (by exact ((Bl.refl w).alloc _).alloc _)).mono ?_; rintro e w1 ⟨⟨N, rfl⟩, b1⟩; obtain ⟨hb0, hs0, hs, q0, q1, q2, f0, f1, f2, c257⟩ := own3and1 b1; clear b1)
        obtain ⟨e0, e1, e2⟩ := st3 (n := w.heap.size) q0 q1 q2 (.int .i64 0) (.int .i64 0) (.int .i64 0) ((Bl.refl _).alloc (.cells #[.int .u64 0] 89))
        refine bodyPost_ret (v := .tuple #[colV 0 0 0, .int .i64 9]) ?_ rfl ⟨rfl, (((hb0.setCell (Nat.le_refl _) _).setCell (Nat.le_refl _) _).setCell (Nat.le_refl _) _).alloc _⟩
        simp [results, Tryz.results39, go_sem, colV, e0, e1, e2]
      | some n =>
        rw [hx] at e3
        obtain ⟨r1, r2⟩ := rd_some e3
        rw [r1, r2]
        have HP := Lib.hid (fun w' => parseU_ok _ n hx (by omega) (by omega) w')
        rw [h7] at HP
        have hn := hexVal_lt _ _ _ hx
        rw [e1, List.length_drop, ← hll, h7] at hn
        have n1 : (n : Int) < 16777216 := by simp at hn; omega
        have n0 : 0 ≤ (n : Int) := by omega
        have v1 : ((257 * (n / 16 ^ (2 * 2) % 16 ^ 2) : Nat) : Int) = (n : Int) / 65536 % 256 * 257 := by omega
        have v2 : ((257 * (n / 16 ^ 2 % 16 ^ 2) : Nat) : Int) = (n : Int) / 256 % 256 * 257 := by omega
        have v3 : ((257 * (n % 16 ^ 2) : Nat) : Int) = (n : Int) / 1 % 256 * 257 := by omega
        rw [v1, v2, v3]
        clear r1 r2 e1 e2 e3 hx hev hll hd h35 hn v1 v2 v3
        generalize (n : Int) = n at *
        have HL := Lib.hid (fun j d hj a b c w => level_short n j d hj a b c w n0 n1)
        generalize h1 : n / 65536 % 256 * 257 = x1
        generalize h2 : n / 256 % 256 * 257 = x2
        generalize h3 : n / 1 % 256 * 257 = x3
        have HL2 := Lib.hid (fun a b c w c1 c2 c3 => HL.out 2 65536 (by decide) a b c w c1 c2 c3)
        have HL1 := Lib.hid (fun a b c w c1 c2 c3 => HL.out 1 256 (by decide) a b c w c1 c2 c3)
        have HL0 := Lib.hid (fun a b c w c1 c2 c3 => HL.out 0 1 (by decide) a b c w c1 c2 c3)
        rw [h1] at HL2
        rw [h2] at HL1
        rw [h3] at HL0
        clear h1 h2 h3 HL n0 n1
        go_enter Tryz.func39, Tryz.ntmps39
        go_wp2_with (first
          | (go_at_call 59; refine (HP.out _).mono ?_; rintro e w1 ⟨rfl, b1⟩; obtain ⟨hb0, hs0, hs, q0, q1, q2, f0, f1, f2, c257⟩ := own3and1 b1; clear b1)
          | (go_at_call 60; (first | (with_reducible refine (HL2.out _ _ _ _ ?_ ?_ ?_).mono ?_) | (with_reducible refine (HL1.out _ _ _ _ ?_ ?_ ?_).mono ?_) | (with_reducible refine (HL0.out _ _ _ _ ?_ ?_ ?_).mono ?_)); (focus simp); (focus simp); (focus (first | exact Bl.cell (((Bl.refl _).alloc _).alloc _) c257 | exact Bl.cell ((((Bl.refl _).alloc _).alloc _).drewN _) c257 | exact Bl.cell (((((Bl.refl _).alloc _).alloc _).drewN _).drewN _) c257)); rintro e w2 ⟨rfl, q, rfl⟩))
        have E := fun (q : Nat) => st3 (W := ((w1.alloc (.cells #[.int .u64 n] 89)).alloc (.cells #[.int .i64 8] 3)).drewN q) (n := w.heap.size) ((((Bl.refl w1).alloc _).alloc _).cell q0) ((((Bl.refl w1).alloc _).alloc _).cell q1) ((((Bl.refl w1).alloc _).alloc _).cell q2) (.int .i64 x1) (.int .i64 x2) (.int .i64 x3) (Bl.refl _)
        refine bodyPost_ret (v := .tuple #[colV x1 x2 x3, .int .i64 0]) ?_ rfl ⟨rfl, Bl.setCell (Bl.setCell (Bl.setCell (((hb0.alloc _).alloc _).drewN _) (Nat.le_refl _) _) (Nat.le_refl _) _) (Nat.le_refl _) _⟩
        have e0 := fun q => (E q).1
        have e1 := fun q => (E q).2.1
        have e2 := fun q => (E q).2.2
        clear E
        simp [results, Tryz.results39, go_sem, colV, e0, e1, e2]
    · have e3 : rdC t.data.toList = none := by unfold rdC; rw [hd, if_neg h35]
      obtain ⟨r1, r2⟩ := rd_none e3
      rw [r1, r2]
      have hb : ((t[0]'h0).toNat : Int) ≠ 35 := by
        intro h
        exact h35 (UInt8.toNat_inj.1 (by show _ = 35; omega))
      have hb2 : ((t[0]'h0).toNat : Int) != 35 := by simpa using hb
      clear r1 r2 e3 hev hll hd h35 hb
      go_enter Tryz.func39, Tryz.ntmps39
      go_wp2
      refine bodyPost_ret (v := .tuple #[colV 0 0 0, .int .i64 9]) ?_ rfl ⟨rfl, ((Bl.refl w).alloc _).alloc _⟩
      simp [results, Tryz.results39, go_sem, colV]
  · by_cases h13 : t.size = 13
    · have h0 : 0 < t.size := by omega
      have hd := head_is t h0
      by_cases h35 : t[0]'h0 = 35
      · obtain ⟨e1, e2⟩ := tail_list t
        have e3 : rdC t.data.toList = hex3 4 1 (t.data.toList.drop 1) := by unfold rdC; rw [hd, if_pos h35, if_neg (by omega), if_pos (by omega)]
        rw [hex3_of (by rw [List.length_drop]; omega), ← e1] at e3
        have hb : ((t[0]'h0).toNat : Int) = 35 := by rw [h35]; rfl
        cases hx : hexVal 0 (t.extract 1 t.size).data.toList with
        | none =>
          rw [hx] at e3
          obtain ⟨r1, r2⟩ := rd_none e3
          rw [r1, r2]
          have HP := Lib.hid (fun w' (m : Bl w w') => parseU_no _ hx (by omega) (by omega) w' (hev.bl m))
          rw [h13] at HP
          clear r1 r2 e1 e2 e3 hx hev hll hd h35
          go_enter Tryz.func39, Tryz.ntmps39
          go_wp2_with (go_at_call 59; refine (HP.out _ (by exact ((Bl.refl w).alloc _).alloc _)).mono ?_; rintro e w1 ⟨⟨N, rfl⟩, b1⟩; obtain ⟨hb0, hs0, hs, q0, q1, q2, f0, f1, f2, c257⟩ := own3and1 b1; clear b1)
          obtain ⟨e0, e1, e2⟩ := st3 (n := w.heap.size) q0 q1 q2 (.int .i64 0) (.int .i64 0) (.int .i64 0) ((Bl.refl _).alloc (.cells #[.int .u64 0] 89))
          refine bodyPost_ret (v := .tuple #[colV 0 0 0, .int .i64 9]) ?_ rfl ⟨rfl, (((hb0.setCell (Nat.le_refl _) _).setCell (Nat.le_refl _) _).setCell (Nat.le_refl _) _).alloc _⟩
          simp [results, Tryz.results39, go_sem, colV, e0, e1, e2]
        | some n =>
          rw [hx] at e3
          obtain ⟨r1, r2⟩ := rd_some e3
          rw [r1, r2]
          have HP := Lib.hid (fun w' => parseU_ok _ n hx (by omega) (by omega) w')
          rw [h13] at HP
          have hn := hexVal_lt _ _ _ hx
          rw [e1, List.length_drop, ← hll, h13] at hn
          have n1 : (n : Int) < 281474976710656 := by simp at hn; omega
          have n0 : 0 ≤ (n : Int) := by omega
          have v1 : ((1 * (n / 16 ^ (2 * 4) % 16 ^ 4) : Nat) : Int) = (n : Int) / 4294967296 % 65536 := by omega
          have v2 : ((1 * (n / 16 ^ 4 % 16 ^ 4) : Nat) : Int) = (n : Int) / 65536 % 65536 := by omega
          have v3 : ((1 * (n % 16 ^ 4) : Nat) : Int) = (n : Int) / 1 % 65536 := by omega
          rw [v1, v2, v3]
          clear r1 r2 e1 e2 e3 hx hev hll hd h35 hn v1 v2 v3
          generalize (n : Int) = n at *
          have HL := Lib.hid (fun j d hj a b c w => level_long n j d hj a b c w n0 n1)
          generalize h1 : n / 4294967296 % 65536 = x1
          generalize h2 : n / 65536 % 65536 = x2
          generalize h3 : n / 1 % 65536 = x3
          have HL2 := Lib.hid (fun a b c w c1 c2 c3 => HL.out 2 4294967296 (by decide) a b c w c1 c2 c3)
          have HL1 := Lib.hid (fun a b c w c1 c2 c3 => HL.out 1 65536 (by decide) a b c w c1 c2 c3)
          have HL0 := Lib.hid (fun a b c w c1 c2 c3 => HL.out 0 1 (by decide) a b c w c1 c2 c3)
          rw [h1] at HL2
          rw [h2] at HL1
          rw [h3] at HL0
          clear h1 h2 h3 HL n0 n1
          go_enter Tryz.func39, Tryz.ntmps39
          go_wp2_with (first
            | (go_at_call 59; refine (HP.out _).mono ?_; rintro e w1 ⟨rfl, b1⟩; obtain ⟨hb0, hs0, hs, q0, q1, q2, f0, f1, f2, c257⟩ := own3and1 b1; clear b1)
            | (go_at_call 60; (first | (with_reducible refine (HL2.out _ _ _ _ ?_ ?_ ?_).mono ?_) | (with_reducible refine (HL1.out _ _ _ _ ?_ ?_ ?_).mono ?_) | (with_reducible refine (HL0.out _ _ _ _ ?_ ?_ ?_).mono ?_)); (focus simp); (focus simp); (focus (first | exact Bl.cell (((Bl.refl _).alloc _).alloc _) c257 | exact Bl.cell ((((Bl.refl _).alloc _).alloc _).drewN _) c257 | exact Bl.cell (((((Bl.refl _).alloc _).alloc _).drewN _).drewN _) c257)); rintro e w2 ⟨rfl, q, rfl⟩))
          have E := fun (q : Nat) => st3 (W := ((w1.alloc (.cells #[.int .u64 n] 89)).alloc (.cells #[.int .i64 16] 3)).drewN q) (n := w.heap.size) ((((Bl.refl w1).alloc _).alloc _).cell q0) ((((Bl.refl w1).alloc _).alloc _).cell q1) ((((Bl.refl w1).alloc _).alloc _).cell q2) (.int .i64 x1) (.int .i64 x2) (.int .i64 x3) (Bl.refl _)
          refine bodyPost_ret (v := .tuple #[colV x1 x2 x3, .int .i64 0]) ?_ rfl ⟨rfl, Bl.setCell (Bl.setCell (Bl.setCell (((hb0.alloc _).alloc _).drewN _) (Nat.le_refl _) _) (Nat.le_refl _) _) (Nat.le_refl _) _⟩
          have e0 := fun q => (E q).1
          have e1 := fun q => (E q).2.1
          have e2 := fun q => (E q).2.2
          clear E
          simp [results, Tryz.results39, go_sem, colV, e0, e1, e2]
      · have e3 : rdC t.data.toList = none := by unfold rdC; rw [hd, if_neg h35]
        obtain ⟨r1, r2⟩ := rd_none e3
        rw [r1, r2]
        have hb : ((t[0]'h0).toNat : Int) ≠ 35 := by
          intro h
          exact h35 (UInt8.toNat_inj.1 (by show _ = 35; omega))
        have hb2 : ((t[0]'h0).toNat : Int) != 35 := by simpa using hb
        clear r1 r2 e3 hev hll hd h35 hb
        go_enter Tryz.func39, Tryz.ntmps39
        go_wp2
        refine bodyPost_ret (v := .tuple #[colV 0 0 0, .int .i64 9]) ?_ rfl ⟨rfl, ((Bl.refl w).alloc _).alloc _⟩
        simp [results, Tryz.results39, go_sem, colV]
    · have e3 : rdC t.data.toList = none := by
        unfold rdC
        rw [if_neg (show ¬ t.data.toList.length = 7 by omega), if_neg (show ¬ t.data.toList.length = 13 by omega)]
        split <;> rfl
      obtain ⟨r1, r2⟩ := rd_none e3
      rw [r1, r2]
      have hz : ((t.size : Int) == 7) = false := by simp; omega
      have hz2 : ((t.size : Int) != 13) = true := by simp; omega
      clear r1 r2 e3 hev hll h7 h13
      go_enter Tryz.func39, Tryz.ntmps39
      go_wp2
      refine bodyPost_ret (v := .tuple #[colV 0 0 0, .int .i64 9]) ?_ rfl ⟨rfl, ((Bl.refl w).alloc _).alloc _⟩
      simp [results, Tryz.results39, go_sem, colV]
end Go.Proofs.YtfamnaekelmkpaaGreatDoor
