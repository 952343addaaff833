/- hasCycle, hasWidth, hasSteps, isCycle, cycleOf of the program. -/
import Derived.Test.YtkllhockcnokeaaDoorEfM
namespace Go.Proofs.YtkllhockcnokeaaDoor
open Go.RowKit Go.Sort

/-- The effect's cells at the block n. -/
def EffAt (w : World) (n : Nat) (e : Eff) (v : Value) : Prop := w.cell? ⟨n, 0, none⟩ = some (.int .i64 e.frm) ∧ w.cell? ⟨n, 1, none⟩ = some (.int .i64 e.lo) ∧ w.cell? ⟨n, 2, none⟩ = some (.int .i64 e.hi) ∧ w.cell? ⟨n, 3, none⟩ = some (.int .i64 e.cyc) ∧ w.cell? ⟨n, 4, none⟩ = some (.int .i64 e.wid) ∧ w.cell? ⟨n, 5, none⟩ = some (.int .i64 e.spr) ∧ w.cell? ⟨n, 6, none⟩ = some (.bool e.bk) ∧ w.cell? ⟨n, 7, none⟩ = some (.bool e.rl) ∧ w.cell? ⟨n, 8, none⟩ = some v
theorem EffAt.bl {w w' : World} {n : Nat} {e : Eff} {v : Value} (h : EffAt w n e v) (g : Bl w w') : EffAt w' n e v :=
  ⟨g.cell h.1, g.cell h.2.1, g.cell h.2.2.1, g.cell h.2.2.2.1, g.cell h.2.2.2.2.1, g.cell h.2.2.2.2.2.1, g.cell h.2.2.2.2.2.2.1, g.cell h.2.2.2.2.2.2.2.1, g.cell h.2.2.2.2.2.2.2.2⟩
theorem EffAt.new (w : World) (t : TypeId) (e : Eff) (v : Value) : EffAt (w.alloc (.cells #[.int .i64 e.frm, .int .i64 e.lo, .int .i64 e.hi, .int .i64 e.cyc, .int .i64 e.wid, .int .i64 e.spr, .bool e.bk, .bool e.rl, v] t)) w.heap.size e v := ⟨by simp, by simp, by simp, by simp, by simp, by simp, by simp, by simp, by simp⟩

set_option maxHeartbeats 400000 in
theorem hasCycle_is (e : Eff) (v : Value) (c : Bool) (h : decide (e.frm = 7) = !c) (w : World) :
    Calls Tryd.prog 14 #[effV e v] w fun r w' => r = .returned (.bool c) ∧ Bl w w' := by
  unfold effV
  have h : decide (e.frm ≠ 7) = c := by
    cases c with
    | true => have : ¬ e.frm = 7 := by simpa using h
              simpa using this
    | false => have : e.frm = 7 := by simpa using h
               simpa using this
  have H := Lib.hid h
  clear h
  go_enter Tryd.func14, Tryd.ntmps14
  go_wp2
  go_ret
  exact ⟨ret_bool (by rw [← H.out]; simp [bne, BEq.beq]), (Bl.refl w).alloc _⟩
theorem isLev_ef (n : Int) (v : Bool) (h : isLev n = v) (w : World) :
    Calls Tryd.prog 23 #[.int .i64 n] w fun e w' => e = .returned (.bool v) ∧ w = w' := by subst h; exact isLevel_any n w
set_option maxHeartbeats 400000 in
theorem hasWidth_is (e : Eff) (v : Value) (c : Bool) (h : decide (e.frm = 4) = c) (w : World) :
    Calls Tryd.prog 16 #[effV e v] w fun r w' => r = .returned (.bool c) ∧ Bl w w' := by
  unfold effV
  have H := Lib.hid h
  clear h
  go_enter Tryd.func16, Tryd.ntmps16
  go_wp2
  go_ret
  exact ⟨ret_bool (by rw [← H.out]; simp [BEq.beq]), (Bl.refl w).alloc _⟩
set_option maxHeartbeats 400000 in
theorem hasSteps_is (e : Eff) (v : Value) (c : Bool) (h : decide (e.frm = 7) = c) (w : World) :
    Calls Tryd.prog 22 #[effV e v] w fun r w' => r = .returned (.bool c) ∧ Bl w w' := by
  unfold effV
  have H := Lib.hid h
  clear h
  go_enter Tryd.func22, Tryd.ntmps22
  go_wp2
  go_ret
  exact ⟨ret_bool (by rw [← H.out]; simp [BEq.beq]), (Bl.refl w).alloc _⟩
set_option maxHeartbeats 400000 in
theorem isCycle_yes (n : Int) (h : 1 ≤ n ∧ n ≤ 3600000) (w : World) :
    Calls Tryd.prog 24 #[.int .i64 n] w fun e w' => e = .returned (.bool true) ∧ w = w' := by
  obtain ⟨h1, h2⟩ := h
  go_enter Tryd.func24, Tryd.ntmps24
  go_wp2
  go_ret
  simp
set_option maxHeartbeats 400000 in
theorem isCycle_no (n : Int) (h : n < 1 ∨ 3600000 < n) (w : World) :
    Calls Tryd.prog 24 #[.int .i64 n] w fun e w' => e = .returned (.bool false) ∧ w = w' := by
  rcases h with h | h
  · go_enter Tryd.func24, Tryd.ntmps24
    go_wp2
    go_ret
    simp
  · have h1 : 1 ≤ n := by omega
    go_enter Tryd.func24, Tryd.ntmps24
    go_wp2
    go_ret
    simpa using h

set_option maxRecDepth 100000 in
set_option maxHeartbeats 1600000 in
/-- cycleOf of an effect whose steps are within their bounds, or that has none. -/
theorem cycleOf_any (e : Eff) (v : Value) (w : World) (hv : StpVal w v e.st) (hs : e.frm = 7 → e.st.all stpOk = true ∧ e.st.length ≤ 50) :
    Calls Tryd.prog 20 #[effV e v] w fun r w' => r = .returned (.int .i64 (cycE e)) ∧ Bl w w' := by
  obtain ⟨o, cap, rfl, _, hp⟩ := hv
  have HP := Lib.hid hp
  have bA : Hid (∀ W, W = w.alloc (.cells #[.int .i64 e.frm, .int .i64 e.lo, .int .i64 e.hi, .int .i64 e.cyc, .int .i64 e.wid, .int .i64 e.spr, .bool e.bk, .bool e.rl, .slice o e.st.length cap] 24) → Bl w W ∧ EffAt W w.heap.size e (.slice o e.st.length cap)) :=
    fun W h => by subst h; exact ⟨(Bl.refl w).alloc _, EffAt.new _ _ _ _⟩
  clear hp
  unfold effV
  by_cases h7 : e.frm = 7
  · have HC := Lib.hid (hasCycle_is e (.slice o e.st.length cap) false (by simp [h7]))
    have HS := Lib.hid (hs h7)
    have HR : Hid (cycE e = sumS e.st) := by show _ = _; unfold cycE; rw [if_pos h7]
    clear hs h7
    obtain ⟨W, hW⟩ : ∃ W, W = w.alloc (.cells #[.int .i64 e.frm, .int .i64 e.lo, .int .i64 e.hi, .int .i64 e.cyc, .int .i64 e.wid, .int .i64 e.spr, .bool e.bk, .bool e.rl, .slice o e.st.length cap] 24) := ⟨_, rfl⟩
    obtain ⟨bW, hA⟩ := bA.out W hW
    have HA := Lib.hid hA
    obtain ⟨c0, c1, c2, c3, c4, c5, c6, c7, c8⟩ := hA
    go_enter Tryd.func20, Tryd.ntmps20
    go_wp2_with fail
    rw [← hW]
    clear hW bA
    go_wp2_with (go_at_call 14; (refine (HC.out _).mono ?_); rintro r w1 ⟨rfl, m1⟩; clear c0 c1 c2 c3 c4 c5 c6 c7 c8; obtain ⟨d0, d1, d2, d3, d4, d5, d6, d7, d8⟩ := HA.out.bl m1)
    go_loopw [3, 13] (fun vs vi wr => ∃ k : Nat, k ≤ e.st.length ∧ vi = .int .i64 k ∧ vs = .int .i64 (sumS (e.st.take k)) ∧ Hid (Bl w1 wr)) (fun _ vi _ => e.st.length - (intOf vi).toNat)
    case atStart => exact ⟨0, Nat.zero_le _, rfl, rfl, Bl.refl _⟩
    case round =>
      obtain ⟨k, hk, rfl, rfl, HB⟩ := hrel
      rename World => wr
      clear d0 d1 d2 d3 d4 d5 d6 d7 d8
      have hl50 : e.st.length ≤ 50 := HS.out.2
      by_cases hlt : k < e.st.length
      · obtain ⟨b, off, rfl, hL⟩ := HP.out (by omega)
        obtain ⟨c0, c1, c2⟩ := (hL.bl (bW.trans (m1.trans HB.out))) k hlt
        have hall := List.all_eq_true.1 HS.out.1
        have ho := stpOk_iff.1 (hall _ (List.getElem_mem hlt))
        have hb := sumS_bd (l := e.st.take k) (List.all_eq_true.2 (fun x hx => hall x (List.mem_of_mem_take hx)))
        have hkl : (e.st.take k).length = k := List.length_take_of_le hk
        rw [hkl] at hb
        have hsn := Lib.hid (sumS_take e.st k hlt)
        have k1 : (k : Int) < (e.st.length : Int) := by omega
        generalize e.st[k] = x at *
        obtain ⟨_, o1, o2, o3, o4⟩ := ho
        obtain ⟨b1, b2⟩ := hb
        obtain ⟨sk, hsk⟩ : ∃ sk, sk = sumS (e.st.take k) := ⟨_, rfl⟩
        rw [← hsk] at hsn b1 b2 ⊢
        clear hL hall hkl hsk
        go_wp2_with fail
        go_roundw
        case rel => exact ⟨k + 1, by omega, by go_num, by rw [hsn.out], by first | exact HB.out.alloc _ | exact (HB.out.alloc _).setCell (by simp; have := HB.out.size; omega) _⟩
        case measure => simp [intOf]; omega
      · have hkl : k = e.st.length := by omega
        have htk : Hid (sumS (e.st.take k) = cycE e) := by show _ = _; rw [HR.out, List.take_of_length_le (by omega)]
        have k1 : ¬ (k : Int) < (e.st.length : Int) := by omega
        clear hkl
        go_wp2_with fail
        go_ret
        exact ⟨ret_int htk.out, bW.trans (m1.trans HB.out)⟩
  · have HC := Lib.hid (hasCycle_is e (.slice o e.st.length cap) true (by simp [h7]))
    have HR : Hid (cycE e = e.cyc) := by show _ = _; unfold cycE; rw [if_neg h7]
    clear hs h7
    obtain ⟨W, hW⟩ : ∃ W, W = w.alloc (.cells #[.int .i64 e.frm, .int .i64 e.lo, .int .i64 e.hi, .int .i64 e.cyc, .int .i64 e.wid, .int .i64 e.spr, .bool e.bk, .bool e.rl, .slice o e.st.length cap] 24) := ⟨_, rfl⟩
    obtain ⟨bW, hA⟩ := bA.out W hW
    have HA := Lib.hid hA
    obtain ⟨c0, c1, c2, c3, c4, c5, c6, c7, c8⟩ := hA
    go_enter Tryd.func20, Tryd.ntmps20
    go_wp2_with fail
    rw [← hW]
    clear hW bA
    go_wp2_with (go_at_call 14; (refine (HC.out _).mono ?_); rintro r w1 ⟨rfl, m1⟩; clear c0 c1 c2 c3 c4 c5 c6 c7 c8; obtain ⟨d0, d1, d2, d3, d4, d5, d6, d7, d8⟩ := HA.out.bl m1)
    go_ret
    exact ⟨ret_int HR.out.symm, bW.trans m1⟩
end Go.Proofs.YtkllhockcnokeaaDoor
