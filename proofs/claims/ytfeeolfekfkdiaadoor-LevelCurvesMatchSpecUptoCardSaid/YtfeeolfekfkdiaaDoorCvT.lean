/- The program's texts of curves: kindWord and CurveText. -/
import Derived.Test.YtfeeolfekfkdiaaDoorInvA
import Derived.Test.YtfeeolfekfkdiaaDoorTxC
import Derived.Test.YtfeeolfekfkdiaaDoorTimS
import Derived.Deep.RegionHeld3
namespace Go.Proofs.YtfeeolfekfkdiaaDoor
open Go.RowKit Go.Lib Go.Sort

set_option maxHeartbeats 800000 in
theorem kindWord_any (k : Int) (w : World) :
    Calls Tryd.prog 56 #[.int .i64 k] w fun e w' => e = .returned (.string (bs (kw k))) ∧ w = w' := by
  by_cases h1 : k = 1
  · subst h1
    go_enter Tryd.func56, Tryd.ntmps56
    go_wp2
    go_returns
    exact ⟨rfl, rfl⟩
  by_cases h2 : k = 2
  · subst h2
    go_enter Tryd.func56, Tryd.ntmps56
    go_wp2
    go_returns
    exact ⟨rfl, rfl⟩
  by_cases h3 : k = 3
  · subst h3
    go_enter Tryd.func56, Tryd.ntmps56
    go_wp2
    go_returns
    exact ⟨rfl, rfl⟩
  by_cases h4 : k = 4
  · subst h4
    go_enter Tryd.func56, Tryd.ntmps56
    go_wp2
    go_returns
    exact ⟨rfl, rfl⟩
  by_cases h5 : k = 5
  · subst h5
    go_enter Tryd.func56, Tryd.ntmps56
    go_wp2
    go_returns
    exact ⟨rfl, rfl⟩
  have e : Hid (kw k = [116, 97, 98, 108, 101]) := by
    refine Lib.hid ?_
    unfold kw; rw [if_neg h1, if_neg h2, if_neg h3, if_neg h4, if_neg h5]
  have h1' : (k == 1) = false := beq_eq_false_iff_ne.2 h1
  have h2' : (k == 2) = false := beq_eq_false_iff_ne.2 h2
  have h3' : (k == 3) = false := beq_eq_false_iff_ne.2 h3
  have h4' : (k == 4) = false := beq_eq_false_iff_ne.2 h4
  have h5' : (k == 5) = false := beq_eq_false_iff_ne.2 h5
  clear h1 h2 h3 h4 h5
  go_enter Tryd.func56, Tryd.ntmps56
  go_wp2
  go_returns
  exact ⟨by rw [e.out]; rfl, rfl⟩

def preT (k : Int) (l : List (Int × Int)) (n : Nat) : List UInt8 := joinW 32 (kw k) ((l.take n).map ptW)
theorem preT_zero (k : Int) (l : List (Int × Int)) : preT k l 0 = kw k := by unfold preT joinW; simp
theorem preT_succ (k : Int) (l : List (Int × Int)) (n : Nat) (h : n < l.length) : preT k l (n + 1) = preT k l n ++ (32 :: ptW (l[n]?.getD (0, 0))) := by
  unfold preT joinW
  rw [List.take_succ_eq_append_getElem h, List.map_append, List.flatMap_append, List.getElem?_eq_getElem h]
  simp
theorem preT_all (k : Int) (l : List (Int × Int)) : preT k l l.length = cvText k l := by unfold preT cvText; rw [List.take_of_length_le (Nat.le_refl _)]
theorem ptW_len (p : Int × Int) (h1 : p.1 ≤ 1000) (h2 : p.2 ≤ 1000) : (ptW p).length ≤ 9 := by
  unfold ptW
  have a := dd_len p.1.toNat 4 (by decide) (by omega)
  have b := dd_len p.2.toNat 4 (by decide) (by omega)
  simp; omega
theorem preT_len (k : Int) (l : List (Int × Int)) (hl : ∀ i, i < l.length → (l[i]?.getD (0, 0)).1 ≤ 1000 ∧ (l[i]?.getD (0, 0)).2 ≤ 1000) (n : Nat) (h : n ≤ l.length) : (preT k l n).length ≤ 6 + 10 * n := by
  induction n with
  | zero =>
    rw [preT_zero]
    unfold kw
    repeat (first | (split <;> first | decide | skip) | decide)
  | succ n ih =>
    rw [preT_succ k l n (by omega), List.length_append, List.length_cons]
    have := ptW_len _ (hl n (by omega)).1 (hl n (by omega)).2
    have := ih (by omega)
    omega
def ctR (k : Int) (l : List (Int × Int)) : Ending := .returned (.tuple #[.string (bs (if ckCurve k l = 0 then cvText k l else [])), .int .i64 (ckCurve k l)])
set_option maxRecDepth 100000 in
set_option maxHeartbeats 1600000 in
theorem curveText_any (k : Int) (sv : Value) (l : List (Int × Int)) (w : World) (h : PtsAny w sv l) (ht : TabIs Tryd.prog w "internal/strconv.uint64pow10" .u64 pow10Tab) :
    Calls Tryd.prog 23 #[.agg #[.int .i64 k, sv]] w fun e w' => e = ctR k l ∧ Gr w w' := by
  have HC := Lib.hid (fun w' (g : Gr w w') => checkCurve_any k sv l w' (h.gr g))
  have HW := Lib.hid (fun w' => kindWord_any k w')
  by_cases hck : ckCurve k l = 0
  · have HR := Lib.hid (show ctR k l = .returned (.tuple #[.string (bs (cvText k l)), .int .i64 0]) by unfold ctR; rw [if_pos hck, hck])
    rw [hck] at HC
    have HJ := Lib.hid (fun (n : Int) (h0 : 0 ≤ n) (h1 : n ≤ 1000) w' (g : Gr w w') => itoa_any n w' h0 (by omega) (tab_bl ht g.bl))
    obtain ⟨k1, k6⟩ := ck_kind hck
    by_cases hn : l.length = 0
    · have hl := List.eq_nil_of_length_eq_zero hn
      subst hl
      obtain ⟨o, cap, hsv⟩ : ∃ o cap, sv = .slice o 0 cap := by
        rcases h with ⟨o, cap, rfl, _⟩ | ⟨b, off, cap, rfl, _⟩
        · exact ⟨_, _, rfl⟩
        · exact ⟨_, _, rfl⟩
      subst hsv
      have HT := Lib.hid (show cvText k [] = kw k by unfold cvText joinW; simp)
      clear h ht hck hn
      go_enter Tryd.func23, Tryd.ntmps23
      go_wp2_with fail
      refine (HC.out _ ((Gr.refl w).alloc _)).mono ?_
      rintro e w1 ⟨rfl, g1⟩
      obtain ⟨c0, c1⟩ := box2 rfl g1.bl
      go_wp2_with fail
      refine (HW.out _).mono ?_
      rintro e w2 ⟨rfl, rfl⟩
      go_wp2_with fail
      go_loop [5, 19] (fun t i => i = .int .i64 0 ∧ t = .string (bs (kw k))) (fun _ _ => 0)
      case atStart => exact ⟨rfl, rfl⟩
      case round =>
        obtain ⟨rfl, rfl⟩ := hrel
        go_wp2
        go_returns
        exact ⟨by rw [HR.out, HT.out]; rfl, ((Gr.refl w).alloc _).trans g1⟩
    · have h6 : k = 6 := by
        by_cases h6 : k = 6
        · exact h6
        · rw [ck_empty hck h6] at hn; exact absurd rfl hn
      subst h6
      have hT := ck_tab hck
      have hl20 := hT.most
      have hrange : ∀ i, i < l.length → (l[i]?.getD (0, 0)).1 ≤ 1000 ∧ (l[i]?.getD (0, 0)).2 ≤ 1000 := fun i hi => ⟨(hT.range i hi).2.1, (hT.range i hi).2.2.2⟩
      have HL := Lib.hid (fun n (hh : n ≤ l.length) => show (bs (preT 6 l n)).size ≤ 6 + 10 * n by rw [bs_size]; exact preT_len 6 l hrange n hh)
      have HS := Lib.hid (fun n (hh : n < l.length) => preT_succ 6 l n hh)
      have HA := Lib.hid (preT_all 6 l)
      have HZ := Lib.hid (preT_zero 6 l)
      obtain ⟨b, off, cap, hsv, hP⟩ : ∃ b off cap, sv = .slice (some ⟨b, off, none⟩) l.length cap ∧ Pts w b off l := by
        rcases h with ⟨o, cap, _, rfl⟩ | ⟨b, off, cap, rfl, hP, _⟩
        · exact absurd rfl hn
        · exact ⟨b, off, cap, rfl, hP⟩
      subst hsv
      have HP := Lib.hid hP
      have HG := Lib.hid hT.range
      clear h ht hck hn hT hrange hP
      go_enter Tryd.func23, Tryd.ntmps23
      go_wp2_with fail
      refine (HC.out _ ((Gr.refl w).alloc _)).mono ?_
      rintro e w1 ⟨rfl, g1⟩
      obtain ⟨c0, c1⟩ := box2 rfl g1.bl
      have hg1 : Gr w w1 := ((Gr.refl w).alloc _).trans g1
      clear g1
      go_wp2_with fail
      refine (HW.out _).mono ?_
      rintro e w2 ⟨rfl, rfl⟩
      go_wp2_with fail
      go_loopw [5, 19] (fun t i wr => ∃ n : Nat, n ≤ l.length ∧ i = .int .i64 n ∧ t = .string (bs (preT 6 l n)) ∧ Gr w wr) (fun _ i _ => l.length - (intOf i).toNat)
      case atStart => exact ⟨0, Nat.zero_le _, rfl, by rw [HZ.out], hg1⟩
      case round =>
        obtain ⟨n, hn, rfl, rfl, hgr⟩ := hrel
        have hsz := HL.out n hn
        by_cases hlt : n < l.length
        · obtain ⟨p0, p1⟩ := HP.out.gr hgr n hlt
          obtain ⟨r0, r1, r2, r3⟩ := HG.out n hlt
          have HN := Lib.hid (HS.out n hlt)
          generalize hpt : l[n]?.getD (0, 0) = pt at *
          obtain ⟨c, d⟩ := pt
          clear hpt
          have r0 : 0 ≤ c := r0
          have r1 : c ≤ 1000 := r1
          have r2 : 0 ≤ d := r2
          have r3 : d ≤ 1000 := r3
          have p0 : wr.cell? ⟨b, off + n * 2, none⟩ = some (.int .i64 c) := p0
          have p1 : wr.cell? ⟨b, off + n * 2 + 1, none⟩ = some (.int .i64 d) := p1
          go_wp2_with fail
          obtain ⟨WA, hWA⟩ : ∃ WA, wr.alloc (.cells #[.int .i64 c, .int .i64 d] 69) = WA := ⟨_, rfl⟩
          have gA : Gr w WA := by rw [← hWA]; exact hgr.alloc _
          have q0 : WA.cell? ⟨wr.heap.size, 0, none⟩ = some (.int .i64 c) := by rw [← hWA]; simp
          have q1 : WA.cell? ⟨wr.heap.size, 1, none⟩ = some (.int .i64 d) := by rw [← hWA]; simp
          have s0 : (bs (decDigits c.toNat)).size ≤ 4 := by rw [bs_size]; exact dd_len _ _ (by decide) (by omega)
          have s1 : (bs (decDigits d.toNat)).size ≤ 4 := by rw [bs_size]; exact dd_len _ _ (by decide) (by omega)
          have HCAT := Lib.hid (show bs (preT 6 l n) ++ (⟨#[32]⟩ ++ bs (decDigits c.toNat) ++ ⟨#[58]⟩ ++ bs (decDigits d.toNat)) = bs (preT 6 l (n + 1)) by
            rw [HN.out]
            show bs (preT 6 l n) ++ (bs [32] ++ bs (decDigits c.toNat) ++ bs [58] ++ bs (decDigits d.toNat)) = _
            rw [bs_app, bs_app, bs_app, bs_app]
            unfold ptW
            simp)
          have z32 : (⟨#[32]⟩ : ByteArray).size = 1 := rfl
          have z58 : (⟨#[58]⟩ : ByteArray).size = 1 := rfl
          have hn20 : (bs (preT 6 l n)).size ≤ 206 := by omega
          have R4 : ∀ w, (Op.stringOp .add ⟨#[32]⟩ (bs (decDigits c.toNat))).run Tryd.prog w = .ok (.string (⟨#[32]⟩ ++ bs (decDigits c.toNat))) w := fun w => run_string_add_sum w _ _ (by rw [z32]; omega)
          have R5 : ∀ w, (Op.stringOp .add (⟨#[32]⟩ ++ bs (decDigits c.toNat)) ⟨#[58]⟩).run Tryd.prog w = .ok (.string (⟨#[32]⟩ ++ bs (decDigits c.toNat) ++ ⟨#[58]⟩)) w := fun w => run_string_add_sum w _ _ (by rw [ByteArray.size_append', z32, z58]; omega)
          have R9 : ∀ w, (Op.stringOp .add (⟨#[32]⟩ ++ bs (decDigits c.toNat) ++ ⟨#[58]⟩) (bs (decDigits d.toNat))).run Tryd.prog w = .ok (.string (⟨#[32]⟩ ++ bs (decDigits c.toNat) ++ ⟨#[58]⟩ ++ bs (decDigits d.toNat))) w := fun w => run_string_add_sum w _ _ (by rw [ByteArray.size_append', ByteArray.size_append', z32, z58]; omega)
          have R10 : ∀ w, (Op.stringOp .add (bs (preT 6 l n)) (⟨#[32]⟩ ++ bs (decDigits c.toNat) ++ ⟨#[58]⟩ ++ bs (decDigits d.toNat))).run Tryd.prog w = .ok (.string (bs (preT 6 l n) ++ (⟨#[32]⟩ ++ bs (decDigits c.toNat) ++ ⟨#[58]⟩ ++ bs (decDigits d.toNat)))) w := fun w => run_string_add_sum w _ _ (by rw [ByteArray.size_append', ByteArray.size_append', ByteArray.size_append', z32, z58]; omega)
          rw [hWA]
          clear hWA p0 p1 z32 z58
          go_region_held3 (fun w' => w'.cell? ⟨wr.heap.size, 0, none⟩ = some (.int .i64 c) ∧ w'.cell? ⟨wr.heap.size, 1, none⟩ = some (.int .i64 d))
            (refine ⟨Gr.cell (w := WA) ?_ q0, Gr.cell (w := WA) ?_ q1⟩ <;> ((repeat (first | with_reducible exact Gr.refl _ | with_reducible assumption | with_reducible refine Gr.drew ?_ | with_reducible refine Gr.alloc ?_ _ | with_reducible refine Gr.trans ?_ (by assumption))); done))
            ((go_at_call 42; refine (HJ.out _ (by omega) (by omega) _ (Gr.trans gA (by ((repeat (first | with_reducible exact Gr.refl _ | with_reducible assumption | with_reducible refine Gr.drew ?_ | with_reducible refine Gr.alloc ?_ _ | with_reducible refine Gr.trans ?_ (by assumption))); done)))).mono ?_; rintro e w2 ⟨rfl, g2⟩))
          all_goals
            go_wp2_with fail
            go_roundw
            case rel => exact ⟨n + 1, by omega, by go_num, by rw [HCAT.out], Gr.trans gA (by ((repeat (first | with_reducible exact Gr.refl _ | with_reducible assumption | with_reducible refine Gr.drew ?_ | with_reducible refine Gr.alloc ?_ _ | with_reducible refine Gr.trans ?_ (by assumption))); done))⟩
            case measure => simp [intOf]; omega
        · obtain rfl : n = l.length := by omega
          go_wp2_with fail
          go_returns
          exact ⟨by rw [HR.out, ← HA.out]; rfl, hgr⟩
  · have HR := Lib.hid (show ctR k l = .returned (.tuple #[.string (bs []), .int .i64 (ckCurve k l)]) by unfold ctR; rw [if_neg hck])
    have hne : (ckCurve k l != 0) = true := by simpa using hck
    obtain ⟨o, n, cap, rfl⟩ := h.form
    clear h ht hck
    generalize ckCurve k l = cc at *
    go_enter Tryd.func23, Tryd.ntmps23
    go_wp2_with fail
    refine (HC.out _ ((Gr.refl w).alloc _)).mono ?_
    rintro e w1 ⟨rfl, g1⟩
    go_wp2_with fail
    go_returns
    exact ⟨HR.out.symm, ((Gr.refl w).alloc _).trans g1⟩
end Go.Proofs.YtfeeolfekfkdiaaDoor
