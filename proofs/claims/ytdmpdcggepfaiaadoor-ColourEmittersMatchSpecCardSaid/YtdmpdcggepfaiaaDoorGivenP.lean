/- Given of the program, for all slices. -/
import Derived.Test.YtdmpdcggepfaiaaDoorGiven
import Derived.Test.YtdmpdcggepfaiaaDoorEmA
import Derived.Test.YtdmpdcggepfaiaaDoorCel
namespace Go.Proofs.YtdmpdcggepfaiaaDoor
open Go.RowKit Go.Sort

/-- v reads as the ints xs. -/
def LvVal (w : World) (v : Value) (xs : List Int) : Prop := ∃ (o : Option Addr) (cap : Nat), v = .slice o xs.length cap ∧ xs.length ≤ 9223372036854775807 ∧ (0 < xs.length → ∃ b off, o = some ⟨b, off, none⟩ ∧ ∀ i (h : i < xs.length), w.cell? ⟨b, off + i, none⟩ = some (.int .i64 xs[i]))
theorem LvVal.bl {w w' : World} {v : Value} {xs : List Int} (h : LvVal w v xs) (g : Bl w w') : LvVal w' v xs := by
  obtain ⟨o, cap, h1, h2, h3⟩ := h
  exact ⟨o, cap, h1, h2, fun hp => by obtain ⟨b, off, h4, h5⟩ := h3 hp; exact ⟨b, off, h4, fun i hi => g.cell (h5 i hi)⟩⟩
/-- What Given says. -/
def gvF (L : List Em) (xs : List Int) : Int := if ckAll L ≠ 0 then ckAll L else if xs.length ≠ L.length then 3 else if xs.all isLev = true then 0 else 1
def gvA (f : Em → Int) (L : List Em) (xs : List Int) : Int := if gvF L xs = 0 then gvC f L (fun i => xs[i]?.getD 0) else 0

set_option maxRecDepth 100000 in
set_option maxHeartbeats 3200000 in
theorem given_err (v vl : Value) (L : List Em) (xs : List Int) (w : World) (hv : EmVal w v L) (hl : LvVal w vl xs) (hok : EmsOk L) (X : Int) (h : ckAll L = X) (hX : X ≠ 0) :
    Calls Tryd.prog 22 #[v, vl] w fun e w' => e = .returned (.tuple #[.agg #[.int .i64 0, .int .i64 0, .int .i64 0], .int .i64 X]) ∧ Bl w w' := by
  have HE := Lib.hid (fun w' (m : Bl w w') => checkEms_all v L w' (hv.bl m) hok)
  rw [h] at HE
  have t1 : (X != 0) = true := by simpa using hX
  obtain ⟨o, cap, rfl, _, _⟩ := hv
  obtain ⟨o2, cap2, rfl, _, _⟩ := hl
  clear h hX hok
  have hW : Bl w (w.alloc (.cells #[.int .i64 0, .int .i64 0, .int .i64 0] 23)) := (Bl.refl w).alloc _
  go_enter Tryd.func22, Tryd.ntmps22
  go_wp2_with fail
  refine (HE.out _ hW).mono ?_
  rintro e w1 ⟨rfl, m1⟩
  obtain ⟨⟨k0, k1, k2⟩, f0, f1, f2⟩ := own3b (n := w.heap.size) (by simp) m1
  go_wp2_with fail
  refine bodyPost_ret (v := .tuple #[.agg #[.int .i64 0, .int .i64 0, .int .i64 0], .int .i64 X]) ?_ rfl ⟨rfl, set3b (Nat.le_refl _) (hW.trans m1) _ _ _⟩
  simp [results, Tryd.results22, go_sem, k0, k1, k2]

set_option maxRecDepth 100000 in
set_option maxHeartbeats 3200000 in
theorem given_len (v vl : Value) (L : List Em) (xs : List Int) (w : World) (hv : EmVal w v L) (hl : LvVal w vl xs) (hok : EmsOk L) (h : ckAll L = 0) (hne : xs.length ≠ L.length) :
    Calls Tryd.prog 22 #[v, vl] w fun e w' => e = .returned (.tuple #[.agg #[.int .i64 0, .int .i64 0, .int .i64 0], .int .i64 3]) ∧ Bl w w' := by
  have HE := Lib.hid (fun w' (m : Bl w w') => checkEms_all v L w' (hv.bl m) hok)
  rw [h] at HE
  have t1 : ((xs.length : Int) != (L.length : Int)) = true := by rw [bne_iff_ne]; omega
  obtain ⟨o, cap, rfl, _, _⟩ := hv
  obtain ⟨o2, cap2, rfl, _, _⟩ := hl
  clear h hok
  have hW : Bl w (w.alloc (.cells #[.int .i64 0, .int .i64 0, .int .i64 0] 23)) := (Bl.refl w).alloc _
  go_enter Tryd.func22, Tryd.ntmps22
  go_wp2_with fail
  refine (HE.out _ hW).mono ?_
  rintro e w1 ⟨rfl, m1⟩
  obtain ⟨⟨k0, k1, k2⟩, f0, f1, f2⟩ := own3b (n := w.heap.size) (by simp) m1
  go_wp2_with fail
  refine bodyPost_ret (v := .tuple #[.agg #[.int .i64 0, .int .i64 0, .int .i64 0], .int .i64 3]) ?_ rfl ⟨rfl, set3b (Nat.le_refl _) (hW.trans m1) _ _ _⟩
  simp [results, Tryd.results22, go_sem, k0, k1, k2]

theorem all_lev_iff {xs : List Int} : xs.all isLev = true ↔ ∀ i (h : i < xs.length), isLev xs[i] = true := by
  rw [List.all_eq_true]
  exact ⟨fun h i hi => h _ (List.getElem_mem hi), fun h x hx => by obtain ⟨i, hi, rfl⟩ := List.getElem_of_mem hx; exact h i hi⟩

set_option maxRecDepth 100000 in
set_option maxHeartbeats 3200000 in
theorem given_lv (v vl : Value) (L : List Em) (xs : List Int) (w : World) (hv : EmVal w v L) (hl : LvVal w vl xs) (hok : EmsOk L) (h : ckAll L = 0) (hne : xs.length = L.length) :
    Calls Tryd.prog 22 #[v, vl] w fun e w' => e = .returned (if xs.all isLev = true then .tuple #[.agg #[.int .i64 (gvC Em.r L (fun i => xs[i]?.getD 0)), .int .i64 (gvC Em.g L (fun i => xs[i]?.getD 0)), .int .i64 (gvC Em.b L (fun i => xs[i]?.getD 0))], .int .i64 0] else .tuple #[.agg #[.int .i64 0, .int .i64 0, .int .i64 0], .int .i64 1]) ∧ Bl w w' := by
  have HE := Lib.hid (fun w' (m : Bl w w') => checkEms_all v L w' (hv.bl m) hok)
  rw [h] at HE
  obtain ⟨h0, h12, hlv⟩ := ckAll_ok h
  have t1 : ((xs.length : Int) != (L.length : Int)) = false := by rw [bne_eq_false_iff_eq]; omega
  obtain ⟨o, cap, rfl, _, hp⟩ := hv
  obtain ⟨b, off, rfl, hL⟩ := hp h0
  obtain ⟨o2, cap2, rfl, _, hp2⟩ := hl
  obtain ⟨b2, off2, rfl, hX⟩ := hp2 (by omega)
  have HX := Lib.hid hX
  have HG : Hid (xs.all isLev = true → ∀ w', Bl w w' → Calls Tryd.prog 57 #[.slice (some ⟨b, off, none⟩) L.length cap, .slice (some ⟨b2, off2, none⟩) xs.length cap2] w' fun e w'' => e = .returned (.agg #[.int .i64 (gvC Em.r L (fun i => xs[i]?.getD 0)), .int .i64 (gvC Em.g L (fun i => xs[i]?.getD 0)), .int .i64 (gvC Em.b L (fun i => xs[i]?.getD 0))]) ∧ Gr w' w'') := fun ha w' m => by
    have := given_any b off cap b2 off2 cap2 L (fun i => xs[i]?.getD 0) w' h0 h12 (hL.bl m) hlv (fun i hi => by
      have := m.cell (hX i (by omega)); simpa [List.getElem?_eq_getElem (show i < xs.length by omega)] using this) (fun i hi => by
      have := all_lev_iff.1 ha i (by omega); rw [isLev_iff] at this; simpa [List.getElem?_eq_getElem (show i < xs.length by omega)] using this)
    rw [← hne] at this; rw [← hne]; exact this
  generalize gvC Em.r L (fun i => xs[i]?.getD 0) = A at *
  generalize gvC Em.g L (fun i => xs[i]?.getD 0) = B at *
  generalize gvC Em.b L (fun i => xs[i]?.getD 0) = C at *
  have hLe := Lib.hid hne
  clear h hok hp hp2 hL hX hlv h12 h0 hne
  have hW : Bl w (w.alloc (.cells #[.int .i64 0, .int .i64 0, .int .i64 0] 23)) := (Bl.refl w).alloc _
  go_enter Tryd.func22, Tryd.ntmps22
  go_wp2_with fail
  refine (HE.out _ hW).mono ?_
  rintro e w1 ⟨rfl, m1⟩
  have HM := Lib.hid m1
  have HB := Lib.hid (hW.trans m1)
  clear hW m1
  go_wp2_with fail
  go_loopw [23] (fun i wr => ∃ k : Nat, k ≤ xs.length ∧ i = .int .i64 k ∧ (∀ j (h : j < xs.length), j < k → isLev xs[j] = true) ∧ wr = w1) (fun i _ => xs.length - (intOf i).toNat)
  case atStart => exact ⟨0, Nat.zero_le _, rfl, fun _ _ h => by omega, rfl⟩
  case round =>
    obtain ⟨k, hk, rfl, hpre, rfl⟩ := hrel
    have HP := Lib.hid hpre
    have HB1 := HB.out
    obtain ⟨⟨k0, k1, k2⟩, f0, f1, f2⟩ := own3b (n := w.heap.size) (by simp) HM.out
    clear hpre
    by_cases hlt : k < xs.length
    · have hcl := HB1.cell (HX.out k hlt)
      cases hn : isLev xs[k] with
      | false =>
        have hall : Hid (¬ xs.all isLev = true) := fun ha => by have := all_lev_iff.1 ha k hlt; rw [hn] at this; cases this
        have HI := Lib.hid (isLevel_any xs[k])
        rw [hn] at HI
        generalize xs[k] = x at hcl HI
        clear hn HB1
        go_wp2_with ((go_at_call 56; refine (HI.out _).mono ?_; rintro e' w2 ⟨rfl, rfl⟩))
        refine bodyPost_ret (v := .tuple #[.agg #[.int .i64 0, .int .i64 0, .int .i64 0], .int .i64 1]) ?_ rfl ⟨by first | rfl | rw [if_neg hall.out], set3b (Nat.le_refl _) HB.out _ _ _⟩
        simp [results, Tryd.results22, go_sem, k0, k1, k2]
      | true =>
        have HI := Lib.hid (isLevel_any xs[k])
        rw [hn] at HI
        have hnx : Hid (∀ j (h : j < xs.length), j < k + 1 → isLev xs[j] = true) := fun j h hj => by
          by_cases e : j = k
          · subst e; exact hn
          · exact HP.out j h (by omega)
        generalize xs[k] = x at hcl HI
        clear hn HB1 k0 k1 k2 f0 f1 f2
        go_wp2_with ((go_at_call 56; refine (HI.out _).mono ?_; rintro e' w2 ⟨rfl, rfl⟩))
        go_roundw
        case rel => exact ⟨k + 1, by omega, by go_num, hnx.out, trivial⟩
        case measure => simp [intOf]; omega
    · obtain rfl : k = xs.length := by omega
      have hall : Hid (xs.all isLev = true) := all_lev_iff.2 (fun i hi => HP.out i hi hi)
      have HC := Lib.hid (HG.out hall.out _ HB1)
      clear HB1 k0 k1 k2 f0 f1 f2
      go_wp2_with fail
      refine HC.out.mono ?_
      rintro e' w3 ⟨rfl, g3⟩
      obtain ⟨⟨k0, k1, k2⟩, f0, f1, f2⟩ := own3b (n := w.heap.size) (by simp) (HM.out.trans g3.bl)
      go_wp2_with fail
      refine bodyPost_ret (v := .tuple #[.agg #[.int .i64 A, .int .i64 B, .int .i64 C], .int .i64 0]) ?_ rfl ⟨by first | rfl | rw [if_pos hall.out], set3b (Nat.le_refl _) (HB.out.trans g3.bl) _ _ _⟩
      simp [results, Tryd.results22, go_sem, k0, k1, k2]
end Go.Proofs.YtdmpdcggepfaiaaDoor
