/- The program's parseCurve and ReadCurve. -/
import Derived.Test.YtfeeolfekfkdiaaDoorCvP
namespace Go.Proofs.YtfeeolfekfkdiaaDoor
open Go.RowKit Go.Lib Go.Sort

theorem bs_eq (a b : List UInt8) : ((bs a).toList == (bs b).toList) = decide (a = b) := by
  rw [Lib.toList_data, Lib.toList_data, bs_list, bs_list]
  rw [Bool.eq_iff_iff]; simp
theorem kind_at {w0 : List UInt8} {k : Nat} (h1 : 1 ≤ k) (h2 : k ≤ 6) (h : w0 = kw k) : kindOf w0 = k := by
  rw [h]; exact kindOf_kw (by omega) (by omega)
theorem kind_none {w0 : List UInt8} (h : ∀ j : Nat, 1 ≤ j → j < 7 → w0 ≠ kw j) : kindOf w0 = 0 := by
  unfold kindOf
  rw [if_neg (show w0 ≠ kw 1 from h 1 (by decide) (by decide)), if_neg (show w0 ≠ kw 2 from h 2 (by decide) (by decide)), if_neg (show w0 ≠ kw 3 from h 3 (by decide) (by decide)), if_neg (show w0 ≠ kw 4 from h 4 (by decide) (by decide)), if_neg (show w0 ≠ kw 5 from h 5 (by decide) (by decide)), if_neg (show w0 ≠ kw 6 from h 6 (by decide) (by decide))]
theorem Wds.tail {w : World} {b off : Nat} {x : List UInt8} {xs : List (List UInt8)} (h : Wds w b off (x :: xs)) : Wds w b (off + 1) xs := fun i hi => by
  have := h (i + 1) (by simpa using hi)
  rw [show off + 1 + i = off + (i + 1) by omega]
  simpa using this
theorem wds_nil (w : World) (b off : Nat) : Wds w b off [] := fun _ hi => absurd hi (Nat.not_lt_zero _)
theorem row_base {base base' : Nat} {e : TypeId} {w : World} {v : Value} {l : List (Int × Int)} (h : Row base e w v l) (hb : base' ≤ base) : Row base' e w v l := by
  refine ⟨h.1, ?_⟩
  rcases h.2 with hn | ⟨g, cap, cur, hv, hbg, rest⟩
  · exact .inl hn
  · exact .inr ⟨g, cap, cur, hv, Nat.le_trans hb hbg, rest⟩
def PcPost (s : ByteArray) (w : World) (e : Ending) (w' : World) : Prop := ∃ (K : Int) (v : Value), e = .returned (.tuple #[.agg #[.int .i64 K, v], .bool (cvOk s.data.toList)]) ∧ (∃ o n c, v = .slice o n c) ∧
  (cvOk s.data.toList = true → K = kindOf (cvW s.data.toList) ∧ Row w.heap.size 69 w' v (ppV (cvWs s.data.toList))) ∧ Bl w w'
theorem split_sum (c : UInt8) (l : List UInt8) : ∀ x ∈ split1 c l, x.length ≤ l.length := by
  obtain ⟨w, ws, e⟩ := split1_ne c l
  have h := join_split e
  intro x hx
  rw [e] at hx
  rw [h]
  unfold joinW
  rcases List.mem_cons.1 hx with rfl | hx
  · simp
  · obtain ⟨a, b, rfl⟩ := List.append_of_mem hx
    simp; omega
theorem split_cnt (c : UInt8) (l : List UInt8) : (split1 c l).length ≤ l.length + 1 := by
  induction l with
  | nil => exact Nat.le_refl _
  | cons b r ih =>
    unfold split1
    by_cases h : b = c
    · rw [if_pos h]; simp; omega
    · rw [if_neg h]
      obtain ⟨x, t, e⟩ := split1_ne c r
      rw [e] at ih ⊢
      simp at ih ⊢; omega
set_option maxRecDepth 100000 in
set_option maxHeartbeats 3200000 in
theorem parseCurve_any (s : ByteArray) (m : Int) (w : World) (hs : s.size ≤ 100000000) (hm : w.cell? ⟨0, 0, none⟩ = some (.int .i64 m)) :
    Calls Tryd.prog 59 #[.string s] w (PcPost s w) := by
  have HSP := Lib.hid (fun w' (g : Bl w w') => split_any s m w' (by omega) (g.cell hm))
  have hsum := split_sum 32 s.data.toList
  have hcnt := split_cnt 32 s.data.toList
  have hll := lst_len s
  obtain ⟨x0, xs, hx⟩ := split1_ne 32 s.data.toList
  have hw0 : cvW s.data.toList = x0 := by unfold cvW; rw [hx]; rfl
  have hws : cvWs s.data.toList = xs := by unfold cvWs; rw [hx]; rfl
  have HOK := Lib.hid (show cvOk s.data.toList = (decide (kindOf x0 ≠ 0) && (ppOk xs && (decide (kindOf x0 = 6) || xs.isEmpty))) by unfold cvOk; rw [hw0, hws])
  have HW0 := Lib.hid hw0
  have HWS := Lib.hid hws
  rw [hx] at HSP hsum hcnt
  have hlen : (x0 :: xs).length = xs.length + 1 := rfl
  rw [hlen] at HSP
  have HKW := Lib.hid (fun k w' => kindWord_any k w')
  have HXL := Lib.hid (fun x (hh : x ∈ xs) => show x.length ≤ 4611686018427387904 by have := hsum x (List.mem_cons_of_mem _ hh); omega)
  have hxn : xs.length ≤ 1000000000 := by rw [hlen] at hcnt; omega
  clear hm hx hw0 hws hsum hcnt hll hlen
  go_enter Tryd.func59, Tryd.ntmps59
  go_wp2_with fail
  refine (HSP.out _ ((Bl.refl w).alloc _)).mono ?_
  rintro e w1 ⟨rfl, hW, g1⟩
  obtain ⟨r0, r1⟩ := box2 rfl g1
  have f2 := g1.frozen (p := ⟨w.heap.size, 0, none⟩) (by simp)
  have f3 := g1.frozen (p := ⟨w.heap.size, 1, none⟩) (by simp)
  have hbl1 : Bl w w1 := ((Bl.refl w).alloc _).trans g1
  have hs0 : w.heap.size < w1.heap.size := by have := g1.size; simp at this; omega
  rw [World.size_alloc] at hW ⊢
  have HW := Lib.hid hW
  have HF2 := Lib.hid f2
  have HF3 := Lib.hid f3
  clear hW f2 f3
  go_wp2_with fail
  go_loopw [5] (fun i wr => ∃ k : Nat, 1 ≤ k ∧ k ≤ 7 ∧ i = .int .i64 k ∧ (∀ j : Nat, 1 ≤ j → j < k → x0 ≠ kw j) ∧ Gr w1 wr) (fun i _ => 7 - (intOf i).toNat)
  case atStart => exact ⟨1, by decide, by decide, rfl, fun j h1 h2 => absurd h2 (by omega), Gr.refl _⟩
  case round =>
    obtain ⟨k, hk1, hk7, rfl, hno, hgr⟩ := hrel
    have HNO := Lib.hid hno
    clear hno
    have q0 := hgr.cell r0
    have q1 := hgr.cell r1
    by_cases hlt : k < 7
    · have hc0 := hgr.cell (HW.out 0 (Nat.succ_pos _))
      have hc0 : wr.cell? ⟨w.heap.size + 1, 0, none⟩ = some (.string (bs x0)) := hc0
      have hpos : (0 : Int) < ((xs.length + 1 : Nat) : Int) := by omega
      have hpos2 : (0 : Int) < (xs.length : Int) + 1 := by omega
      by_cases heq : x0 = kw k
      · have hb : ((bs x0).toList == (bs (kw k)).toList) = true := by rw [bs_eq]; simpa using heq
        have HKD := Lib.hid (kind_at hk1 (by omega) heq)
        have k6 : (k : Int) ≤ 6 := by omega
        clear heq
        have HPP : Hid (∀ b off cap w', Wds w' b off xs → Calls Tryd.prog 87 #[.slice (some ⟨b, off, none⟩) xs.length cap] w' (PpPost xs w')) := Lib.hid (fun b off cap w' h => parsePoints_any b off cap xs w' h hxn HXL.out)
        cases xs with
        | nil =>
          have hone : (1 : Int) ≤ 1 := by decide
          go_wp2_with fail
          go_region_held3 (fun w' => w'.cell? ⟨w.heap.size + 1, 0, none⟩ = some (.string (bs x0)))
            ((refine Gr.cell (w := wr) ?_ hc0; ((repeat (first | with_reducible exact Gr.refl _ | with_reducible assumption | with_reducible refine Gr.drew ?_ | with_reducible refine Gr.alloc ?_ _ | with_reducible refine Gr.trans ?_ (by assumption))); done)))
            ((go_at_call 56; refine (HKW.out _ _).mono ?_; rintro e w2 ⟨rfl, rfl⟩))
          all_goals
            obtain ⟨wd, hwd⟩ : ∃ wd, wr.drew = wd := ⟨_, rfl⟩
            have hgd : Gr w1 wd := by rw [← hwd]; exact hgr.drew
            rw [hwd]
            clear hwd
            go_wp2_with fail
            refine (HPP.out _ _ _ _ (wds_nil _ _ _)).mono ?_
            rintro e w5 ⟨v, rfl, hp, g5⟩
            obtain ⟨o, n, c, hv⟩ := (Row.pts hp).form
            subst hv
            have hg5 : Bl w1 w5 := hgd.bl.trans g5
            have d0 := hg5.cell r0
            have d1 := hg5.cell r1
            have e2 : w5.frozen? ⟨w.heap.size, 0, none⟩ = false := by rw [hg5.frozen hs0, HF2.out]; simp
            have e3 : w5.frozen? ⟨w.heap.size, 1, none⟩ = false := by rw [hg5.frozen hs0, HF3.out]; simp
            have hbl5 : Bl w w5 := hbl1.trans hg5
            obtain ⟨z0, z1⟩ := st2 (.int .i64 (k : Int)) (.slice o n c) d0 d1
            have hb5 : Bl w ((w5.setCell ⟨w.heap.size, 0, none⟩ (.int .i64 (k : Int))).setCell ⟨w.heap.size, 1, none⟩ (.slice o n c)) := (hbl5.setCell (p := ⟨w.heap.size, 0, none⟩) (Nat.le_refl _) _).setCell (p := ⟨w.heap.size, 1, none⟩) (Nat.le_refl _) _
            have hlow : w.heap.size < wd.heap.size := Nat.lt_of_lt_of_le hs0 hgd.size
            have hp6 := row_base (row_set (j := 1) (row_set (j := 0) hp hlow (.int .i64 (k : Int))) hlow (.slice o n c)) (Nat.le_of_lt hlow)
            have Y0 := Lib.hid z0
            have Y1 := Lib.hid z1
            have B5 := Lib.hid hb5
            have P6 := Lib.hid hp6
            clear z0 z1 hb5 hbl5 hp6 hp g5
            have HT := Lib.hid (show cvOk s.data.toList = true by rw [HOK.out, HKD.out]; simp [ppOk]; omega)
            by_cases hk6 : (k : Int) = 6
            · have hk6' : ((k : Int) == 6) = true := by rw [hk6]; rfl
              clear hk6
              go_wp2_with fail
              refine bodyPost_ret (v := .tuple #[.agg #[.int .i64 (k : Int), .slice o n c], .bool true]) (by simp [results, Tryd.results59, go_sem, Y0.out, Y1.out]) rfl ⟨(k : Int), .slice o n c, by rw [HT.out], ⟨_, _, _, rfl⟩, (fun h => ⟨by rw [HW0.out, HKD.out], by rw [HWS.out]; exact P6.out⟩), B5.out⟩
            · have hk6' : ((k : Int) == 6) = false := beq_eq_false_iff_ne.2 hk6
              clear hk6
              go_wp2_with fail
              refine bodyPost_ret (v := .tuple #[.agg #[.int .i64 (k : Int), .slice o n c], .bool true]) (by simp [results, Tryd.results59, go_sem, Y0.out, Y1.out]) rfl ⟨(k : Int), .slice o n c, by rw [HT.out], ⟨_, _, _, rfl⟩, (fun h => ⟨by rw [HW0.out, HKD.out], by rw [HWS.out]; exact P6.out⟩), B5.out⟩
        | cons y ys =>
          have hpos3 : (0 : Int) < (ys.length : Int) + 1 + 1 := by omega
          have hone : (1 : Int) ≤ (ys.length : Int) + 1 + 1 := by omega
          have hys : 0 ≤ (ys.length : Int) := by omega
          have hnn : ((ys.length : Int) + 1 + 1 == 1) = false := by rw [beq_eq_false_iff_ne]; omega
          simp only [List.length_cons] at HPP
          go_wp2_with fail
          go_region_held3 (fun w' => w'.cell? ⟨w.heap.size + 1, 0, none⟩ = some (.string (bs x0)))
            ((refine Gr.cell (w := wr) ?_ hc0; ((repeat (first | with_reducible exact Gr.refl _ | with_reducible assumption | with_reducible refine Gr.drew ?_ | with_reducible refine Gr.alloc ?_ _ | with_reducible refine Gr.trans ?_ (by assumption))); done)))
            ((go_at_call 56; refine (HKW.out _ _).mono ?_; rintro e w2 ⟨rfl, rfl⟩))
          all_goals
            obtain ⟨wd, hwd⟩ : ∃ wd, wr.drew = wd := ⟨_, rfl⟩
            have hgd : Gr w1 wd := by rw [← hwd]; exact hgr.drew
            rw [hwd]
            clear hwd
            go_wp2_with fail
            refine (HPP.out _ _ _ _ ((HW.out.bl hgd.bl).tail)).mono ?_
            rintro e w5 ⟨v, rfl, hp, g5⟩
            obtain ⟨o, n, c, hv⟩ := (Row.pts hp).form
            subst hv
            have hg5 : Bl w1 w5 := hgd.bl.trans g5
            have d0 := hg5.cell r0
            have d1 := hg5.cell r1
            have e2 : w5.frozen? ⟨w.heap.size, 0, none⟩ = false := by rw [hg5.frozen hs0, HF2.out]; simp
            have e3 : w5.frozen? ⟨w.heap.size, 1, none⟩ = false := by rw [hg5.frozen hs0, HF3.out]; simp
            have hbl5 : Bl w w5 := hbl1.trans hg5
            obtain ⟨z0, z1⟩ := st2 (.int .i64 (k : Int)) (.slice o n c) d0 d1
            have hb5 : Bl w ((w5.setCell ⟨w.heap.size, 0, none⟩ (.int .i64 (k : Int))).setCell ⟨w.heap.size, 1, none⟩ (.slice o n c)) := (hbl5.setCell (p := ⟨w.heap.size, 0, none⟩) (Nat.le_refl _) _).setCell (p := ⟨w.heap.size, 1, none⟩) (Nat.le_refl _) _
            have hlow : w.heap.size < wd.heap.size := Nat.lt_of_lt_of_le hs0 hgd.size
            have hp6 := row_base (row_set (j := 1) (row_set (j := 0) hp hlow (.int .i64 (k : Int))) hlow (.slice o n c)) (Nat.le_of_lt hlow)
            have Y0 := Lib.hid z0
            have Y1 := Lib.hid z1
            have B5 := Lib.hid hb5
            have P6 := Lib.hid hp6
            clear z0 z1 hb5 hbl5 hp6 hp g5
            cases hpb : ppOk (y :: ys) with
            | false =>
              have HT := Lib.hid (show cvOk s.data.toList = false by rw [HOK.out, HKD.out, hpb]; simp)
              clear hpb
              go_wp2_with fail
              refine bodyPost_ret (v := .tuple #[.agg #[.int .i64 (k : Int), .slice o n c], .bool false]) (by simp [results, Tryd.results59, go_sem, Y0.out, Y1.out]) rfl ⟨(k : Int), .slice o n c, by rw [HT.out], ⟨_, _, _, rfl⟩, (fun h => by rw [HT.out] at h; cases h), B5.out⟩
            | true =>
              by_cases hk6 : (k : Int) = 6
              · have hk6' : ((k : Int) == 6) = true := by rw [hk6]; rfl
                have HT := Lib.hid (show cvOk s.data.toList = true by rw [HOK.out, HKD.out, hpb, hk6]; rfl)
                have HP7 := Lib.hid (show Row w.heap.size 69 _ (.slice o n c) (ppV (y :: ys)) by have := P6.out; rw [hpb] at this; exact this)
                clear hpb hk6 P6
                go_wp2_with fail
                refine bodyPost_ret (v := .tuple #[.agg #[.int .i64 (k : Int), .slice o n c], .bool true]) (by simp [results, Tryd.results59, go_sem, Y0.out, Y1.out]) rfl ⟨(k : Int), .slice o n c, by rw [HT.out], ⟨_, _, _, rfl⟩, (fun h => ⟨by rw [HW0.out, HKD.out], by rw [HWS.out]; exact HP7.out⟩), B5.out⟩
              · have hk6' : ((k : Int) == 6) = false := beq_eq_false_iff_ne.2 hk6
                have HT := Lib.hid (show cvOk s.data.toList = false by rw [HOK.out, HKD.out, hpb, decide_eq_false hk6]; simp)
                clear hpb hk6 P6
                go_wp2_with fail
                refine bodyPost_ret (v := .tuple #[.agg #[.int .i64 (k : Int), .slice o n c], .bool false]) (by simp [results, Tryd.results59, go_sem, Y0.out, Y1.out]) rfl ⟨(k : Int), .slice o n c, by rw [HT.out], ⟨_, _, _, rfl⟩, (fun h => by rw [HT.out] at h; cases h), B5.out⟩
      · have hb : ((bs x0).toList == (bs (kw k)).toList) = false := by rw [bs_eq]; simpa using heq
        have HNE := Lib.hid heq
        clear heq
        go_wp2_with fail
        go_region_held3 (fun w' => w'.cell? ⟨w.heap.size + 1, 0, none⟩ = some (.string (bs x0)))
          ((refine Gr.cell (w := wr) ?_ hc0; ((repeat (first | with_reducible exact Gr.refl _ | with_reducible assumption | with_reducible refine Gr.drew ?_ | with_reducible refine Gr.alloc ?_ _ | with_reducible refine Gr.trans ?_ (by assumption))); done)))
          ((go_at_call 56; refine (HKW.out _ _).mono ?_; rintro e w2 ⟨rfl, rfl⟩))
        all_goals
          go_wp2_with fail
          go_roundw
          case rel =>
            refine ⟨k + 1, by omega, by omega, by go_num, fun j h1 h2 => ?_, hgr.drew⟩
            by_cases e : j = k
            · rw [e]; exact HNE.out
            · exact HNO.out j h1 (by omega)
          case measure => simp [intOf]; omega
    · obtain rfl : k = 7 := by omega
      have HKD := Lib.hid (kind_none HNO.out)
      have e2 : wr.frozen? ⟨w.heap.size, 0, none⟩ = false := by rw [hgr.frozen hs0, HF2.out]; simp
      have e3 : wr.frozen? ⟨w.heap.size, 1, none⟩ = false := by rw [hgr.frozen hs0, HF3.out]; simp
      have hblr : Bl w wr := hbl1.trans hgr.bl
      obtain ⟨z0, z1⟩ := st2 (.int .i64 0) (.slice none 0 0) q0 q1
      have hb5 : Bl w ((wr.setCell ⟨w.heap.size, 0, none⟩ (.int .i64 0)).setCell ⟨w.heap.size, 1, none⟩ (.slice none 0 0)) := (hblr.setCell (p := ⟨w.heap.size, 0, none⟩) (Nat.le_refl _) _).setCell (p := ⟨w.heap.size, 1, none⟩) (Nat.le_refl _) _
      have Y0 := Lib.hid z0
      have Y1 := Lib.hid z1
      have B5 := Lib.hid hb5
      clear z0 z1 hb5 hblr
      go_wp2_with fail
      have hF : cvOk s.data.toList = false := by rw [HOK.out, HKD.out]; rfl
      refine bodyPost_ret (v := .tuple #[.agg #[.int .i64 0, .slice none 0 0], .bool false]) (by simp [results, Tryd.results59, go_sem, Y0.out, Y1.out]) rfl ⟨0, .slice none 0 0, by rw [hF], ⟨_, _, _, rfl⟩, (fun h => by rw [hF] at h; cases h), B5.out⟩
end Go.Proofs.YtfeeolfekfkdiaaDoor
