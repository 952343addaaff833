/- The reference's ReadCurve. -/
import Derived.Test.YtfeeolfekfkdiaaDoorRfT
import Derived.Test.YtfeeolfekfkdiaaDoorRefN
import Derived.Test.YtfeeolfekfkdiaaDoorRfV
namespace Go.Proofs.YtfeeolfekfkdiaaDoor
open Go.RowKit Go.Lib Go.Sort

theorem rc_word {L : List UInt8} {k : Nat} (h1 : 1 ≤ k) (h2 : k ≤ 5) (h : L = kw k) : rcX L = 0 ∧ rcK L = k ∧ rcL L = [] := by
  subst h
  have : k = 1 ∨ k = 2 ∨ k = 3 ∨ k = 4 ∨ k = 5 := by omega
  rcases this with rfl | rfl | rfl | rfl | rfl <;> exact ⟨by decide, by decide, by decide⟩
theorem cv_parts {L x0 : List UInt8} {xs : List (List UInt8)} (hx : split1 32 L = x0 :: xs) : cvW L = x0 ∧ cvWs L = xs := ⟨by unfold cvW; rw [hx]; rfl, by unfold cvWs; rw [hx]; rfl⟩
theorem rc_nine {L : List UInt8} (h : cvOk L = false) : rcX L = 9 := by unfold rcX; rw [h]; rfl
theorem rc_not {L x0 : List UInt8} {xs : List (List UInt8)} (hx : split1 32 L = x0 :: xs) (hw : ∀ k : Nat, 1 ≤ k → k ≤ 5 → L ≠ kw k) (h6 : x0 ≠ kw 6) : rcX L = 9 := by
  apply rc_nine
  obtain ⟨a, b⟩ := cv_parts hx
  cases hc : cvOk L with
  | false => rfl
  | true =>
    exfalso
    have h := cv_read hc
    unfold cvOk at hc
    rw [a, b] at hc
    simp only [Bool.and_eq_true, Bool.or_eq_true, decide_eq_true_eq] at hc
    obtain ⟨c1, _, c3⟩ := hc
    obtain ⟨d1, d2, d3⟩ := kw_kindOf c1
    rcases c3 with c3 | c3
    · rw [c3] at d1; exact h6 d1
    · have e : xs = [] := List.isEmpty_iff.1 c3
      subst e
      have e2 : L = x0 := by have := join_split hx; unfold joinW at this; simpa using this
      by_cases k6 : kindOf x0 = 6
      · rw [k6] at d1; exact h6 d1
      · exact hw (kindOf x0).toNat (by omega) (by omega) (by rw [e2]; rw [show (((kindOf x0).toNat : Nat) : Int) = kindOf x0 by omega]; exact d1)
theorem rc_bad {L x0 : List UInt8} {xs : List (List UInt8)} (hx : split1 32 L = x0 :: xs) (hp : ppOk xs = false) : rcX L = 9 := by
  apply rc_nine
  obtain ⟨a, b⟩ := cv_parts hx
  unfold cvOk
  rw [a, b, hp]
  simp
theorem rc_tab {L x0 : List UInt8} {xs : List (List UInt8)} (hx : split1 32 L = x0 :: xs) (h6 : x0 = kw 6) (hp : ppOk xs = true) : rcX L = ckCurve 6 (ppV xs) ∧ (rcX L = 0 → rcK L = 6 ∧ rcL L = ppV xs) := by
  obtain ⟨a, b⟩ := cv_parts hx
  have hk : kindOf x0 = 6 := by rw [h6]; decide
  have ho : cvOk L = true := by
    unfold cvOk
    rw [a, b, hp, hk]
    simp
  refine ⟨by unfold rcX; rw [if_pos ho, a, b, hk], fun h => ?_⟩
  obtain ⟨r1, r2⟩ := rc_yes h
  rw [r1, r2, a, b, hk]
  exact ⟨rfl, rfl⟩
theorem idx_word {s : ByteArray} : (∃ k : Nat, 1 ≤ k ∧ k ≤ 5 ∧ s.data.toList = kw k ∧ Lib.idxOfS (wR.take 6) s = k) ∨ ((∀ k : Nat, 1 ≤ k → k ≤ 5 → s.data.toList ≠ kw k) ∧ Lib.idxOfS (wR.take 6) s ≤ 0) := by
  by_cases h0 : s = ⟨#[]⟩
  · subst h0
    exact Or.inr ⟨fun k h1 h2 => by have : k = 1 ∨ k = 2 ∨ k = 3 ∨ k = 4 ∨ k = 5 := by omega
                                    rcases this with rfl | rfl | rfl | rfl | rfl <;> decide, by decide⟩
  have hg : ∀ k : Nat, 1 ≤ k → k ≤ 5 → wR.getD k ByteArray.empty = bs (kw k) := fun k h1 h2 => by
    have : k = 1 ∨ k = 2 ∨ k = 3 ∨ k = 4 ∨ k = 5 := by omega
    rcases this with rfl | rfl | rfl | rfl | rfl <;> rfl
  by_cases hk : ∃ k : Nat, 1 ≤ k ∧ k ≤ 5 ∧ s.data.toList = kw k
  · obtain ⟨k, h1, h2, h⟩ := hk
    refine Or.inl ⟨k, h1, h2, h, ?_⟩
    have e : s = bs (kw k) := by rw [← h]; exact (bs_of s).symm
    refine Lib.idxOfS_hit wR 6 k s (by omega) (by decide) (by rw [hg k h1 h2, e]) (fun j hj => ?_)
    subst e
    have : k = 1 ∨ k = 2 ∨ k = 3 ∨ k = 4 ∨ k = 5 := by omega
    rcases this with rfl | rfl | rfl | rfl | rfl
    all_goals
      have : j = 0 ∨ j = 1 ∨ j = 2 ∨ j = 3 ∨ j = 4 := by omega
      rcases this with rfl | rfl | rfl | rfl | rfl <;> first | omega | decide
  · have hn : ∀ k : Nat, 1 ≤ k → k ≤ 5 → s.data.toList ≠ kw k := fun k h1 h2 h => hk ⟨k, h1, h2, h⟩
    refine Or.inr ⟨hn, ?_⟩
    rw [Lib.idxOfS_miss wR 6 s (fun j hj e => ?_)]
    · decide
    · rcases Nat.eq_zero_or_pos j with rfl | hp
      · exact h0 e.symm
      · rw [hg j hp (by omega)] at e
        exact hn j hp (by omega) (by rw [← e, bs_list])

theorem cut_no {c : UInt8} {l : List UInt8} (h : (cut1 c l).2.2 = false) : (cut1 c l).2.1 = [] := by
  rcases cut1_spec c l with ⟨hc, _⟩ | ⟨a, b, hab, hno, hc⟩
  · rw [hc]
  · rw [hc] at h; cases h
set_option maxRecDepth 100000 in
set_option maxHeartbeats 1600000 in
theorem readCurveR (s : ByteArray) (m : Int) (w : World) (hs : s.size ≤ 100000000) (hm : w.cell? ⟨0, 0, none⟩ = some (.int .i64 m)) :
    Calls Tryd.prog 28 #[.string s] w (RcPost s w) := by
  have HSP := Lib.hid (fun w' (g : Bl w w') => split_any s m w' (by omega) (g.cell hm))
  have HWD := Lib.hid (fun w' => words_any w')
  have HIX := Lib.hid (fun b w' (hc : ∀ j, j < 6 → w'.cell? ⟨b, 0 + j, none⟩ = some (.string (wR.getD j ByteArray.empty))) => Tryd.slices_Index_string b 0 6 6 wR s w' (by decide) (by decide) hc)
  obtain ⟨k, k1, k5, hk, hi⟩ | ⟨hno, hi⟩ := idx_word (s := s)
  · obtain ⟨r1, r2, r3⟩ := rc_word k1 k5 hk
    rw [hi] at HIX
    have HX := Lib.hid r1
    have HK := Lib.hid r2
    have HL := Lib.hid r3
    have hkp : (0 : Int) < (k : Int) := by omega
    clear hk hi r1 r2 r3 hm
    go_enter Tryd.func28, Tryd.ntmps28
    go_wp2_with fail
    refine (HWD.out _).mono ?_
    rintro e w1 ⟨rfl, g1, hc⟩
    rw [World.size_alloc] at hc
    have HC := Lib.hid hc
    clear hc
    obtain ⟨r0, r1⟩ := box2 rfl g1.bl
    have hbl1 : Bl w w1 := ((Bl.refl w).alloc _).trans g1.bl
    have f2 : w1.frozen? ⟨w.heap.size, 0, none⟩ = false := by rw [g1.bl.frozen (by simp)]; simp
    have f3 : w1.frozen? ⟨w.heap.size, 1, none⟩ = false := by rw [g1.bl.frozen (by simp)]; simp
    have hs0 : w.heap.size < w1.heap.size := by have := g1.bl.size; simp at this; omega
    clear g1
    go_wp2_with fail
    refine (HIX.out _ _ HC.out).mono ?_
    rintro e w2 ⟨rfl, rfl⟩
    go_wp2_with fail
    obtain ⟨z0, z1⟩ := st2 (.int .i64 k) (.slice none 0 0) r0 r1
    have hb5 := (hbl1.setCell (p := ⟨w.heap.size, 0, none⟩) (Nat.le_refl _) (.int .i64 k)).setCell (p := ⟨w.heap.size, 1, none⟩) (Nat.le_refl _) (.slice none 0 0)
    have Y0 := Lib.hid z0
    have Y1 := Lib.hid z1
    have B5 := Lib.hid hb5
    refine bodyPost_ret (v := .tuple #[.agg #[.int .i64 k, .slice none 0 0], .int .i64 0]) (by simp [results, Tryd.results28, go_sem, Y0.out, Y1.out]) rfl ⟨.slice none 0 0, by rw [HX.out, HK.out], by rw [HL.out]; exact Or.inl ⟨_, _, rfl, rfl⟩, B5.out⟩
  · obtain ⟨x0, xs, hx⟩ := split1_ne 32 s.data.toList
    have hsum := split_sum 32 s.data.toList
    have hcnt := split_cnt 32 s.data.toList
    have hll := lst_len s
    rw [hx] at HSP hsum hcnt
    have hlen : (x0 :: xs).length = xs.length + 1 := rfl
    rw [hlen] at HSP
    have HXL := Lib.hid (fun x (hh : x ∈ xs) => show x.length ≤ 100000000 by have := hsum x (List.mem_cons_of_mem _ hh); omega)
    have hxn : xs.length ≤ 1000000000 := by rw [hlen] at hcnt; omega
    generalize Lib.idxOfS (wR.take 6) s = ix at *
    have hix : ¬ (0 : Int) < ix := by omega
    have HN := Lib.hid hno
    have HSX := Lib.hid hx
    clear hno hi hm hx hsum hcnt hll hlen
    go_enter Tryd.func28, Tryd.ntmps28
    go_wp2_with fail
    refine (HWD.out _).mono ?_
    rintro e w1 ⟨rfl, g1, hc⟩
    rw [World.size_alloc] at hc
    have HC := Lib.hid hc
    clear hc
    go_wp2_with fail
    refine (HIX.out _ _ HC.out).mono ?_
    rintro e w0 ⟨rfl, rfl⟩
    have hbl1 : Bl w w0 := ((Bl.refl w).alloc _).trans g1.bl
    go_wp2_with fail
    refine (HSP.out _ hbl1).mono ?_
    rintro e w2 ⟨rfl, hW, g2⟩
    have HW := Lib.hid hW
    obtain ⟨r0, r1⟩ := box2 rfl (g1.bl.trans g2)
    have hbl2 : Bl w w2 := hbl1.trans g2
    have f2 : w2.frozen? ⟨w.heap.size, 0, none⟩ = false := by rw [(g1.bl.trans g2).frozen (by simp)]; simp
    have f3 : w2.frozen? ⟨w.heap.size, 1, none⟩ = false := by rw [(g1.bl.trans g2).frozen (by simp)]; simp
    have hs0 : w.heap.size < w2.heap.size := by have := (g1.bl.trans g2).size; simp at this; omega
    have hc0 : w2.cell? ⟨w0.heap.size, 0, none⟩ = some (.string (bs x0)) := hW 0 (Nat.succ_pos _)
    have hpos : (0 : Int) < (xs.length : Int) + 1 := by omega
    have hone : (1 : Int) ≤ (xs.length : Int) + 1 := by omega
    clear hW g1
    have HCK := Lib.hid (fun sv l w' (h : PtsAny w' sv l) => checkCurve_ref 6 sv l w' h)
    unfold PCk at HCK
    by_cases h6 : x0 = kw 6
    · have hb : ((bs x0).toList == [116, 97, 98, 108, 101]) = true := by
        rw [Lib.toList_data, bs_list, h6]; decide
      have H6 := Lib.hid h6
      clear h6
      rcases Nat.eq_zero_or_pos xs.length with h0 | h0
      · obtain rfl := List.eq_nil_of_length_eq_zero h0
        have HX := Lib.hid (show rcX s.data.toList = 8 by rw [(rc_tab HSX.out H6.out rfl).1]; rfl)
        have HN8 := Lib.hid (show ckCurve 6 [] = 8 from rfl)
        clear h0
        go_wp2_with fail
        refine wp_loop_rounds 1 ?_
        rw [rounds_succ]
        go_wp2_with fail
        refine (HCK.out _ [] _ (Or.inl ⟨_, _, rfl, rfl⟩)).mono ?_
        rintro e w5 ⟨rfl, g5⟩
        rw [HN8.out]
        have ga : Bl w2 w5 := ((Bl.refl w2).alloc _).trans g5
        replace r0 := ga.cell r0
        replace r1 := ga.cell r1
        replace f2 : w5.frozen? ⟨w.heap.size, 0, none⟩ = false := by rw [ga.frozen hs0]; exact f2
        replace f3 : w5.frozen? ⟨w.heap.size, 1, none⟩ = false := by rw [ga.frozen hs0]; exact f3
        have hbw : Bl w w5 := hbl2.trans ga
        clear g5 ga
        go_wp2_with fail
        obtain ⟨z0, z1⟩ := st2 (.int .i64 0) (.slice none 0 0) r0 r1
        have hb5 := (hbw.setCell (p := ⟨w.heap.size, 0, none⟩) (Nat.le_refl _) (.int .i64 0)).setCell (p := ⟨w.heap.size, 1, none⟩) (Nat.le_refl _) (.slice none 0 0)
        have Y0 := Lib.hid z0
        have Y1 := Lib.hid z1
        have B5 := Lib.hid hb5
        have HKL := Lib.hid (rc_no (l := s.data.toList) (by rw [HX.out]; decide))
        refine bodyPost_ret (v := .tuple #[.agg #[.int .i64 0, .slice none 0 0], .int .i64 8]) (by simp [results, Tryd.results28, go_sem, Y0.out, Y1.out]) rfl ⟨.slice none 0 0, by rw [HX.out, HKL.out.1], by rw [HKL.out.2]; exact Or.inl ⟨_, _, rfl, rfl⟩, B5.out⟩
      · have hne : xs.length ≠ 0 := by omega
        have hne2 : ¬ xs = [] := by intro e; rw [e] at h0; exact absurd h0 (by decide)
        have HNE := Lib.hid hne2
        go_wp2_with fail
        go_loopw [35] (fun i wr => ∃ (k : Nat) (v : Value), k ≤ xs.length ∧ i = .int .i64 k ∧ wr.heap[w2.heap.size]? = some (.cells #[.int .i64 6, v] 24 (0, 0)) ∧ Row (w2.heap.size + 1) 69 wr v (ppV (xs.take k)) ∧ ppOk (xs.take k) = true ∧ Bl w2 wr) (fun i _ => xs.length - (intOf i).toNat)
        case atStart => exact ⟨0, _, Nat.zero_le _, rfl, World.alloc_heap_new w2 _, World.ownsRow_nil _ _ _ _, rfl, (Bl.refl w2).alloc _⟩
        case round =>
          obtain ⟨k, v, hk, rfl, hbox, hrow, hok, hblr⟩ := hrel
          have HBOX := Lib.hid hbox
          have HROW := Lib.hid hrow
          have HOK := Lib.hid hok
          clear hbox hrow hok
          replace r0 := hblr.cell r0
          replace r1 := hblr.cell r1
          replace f2 : wr.frozen? ⟨w.heap.size, 0, none⟩ = false := by rw [hblr.frozen hs0]; exact f2
          replace f3 : wr.frozen? ⟨w.heap.size, 1, none⟩ = false := by rw [hblr.frozen hs0]; exact f3
          have hbw : Bl w wr := hbl2.trans hblr
          by_cases hlt : k < xs.length
          · have hcell := (Wds.tail HW.out).bl hblr k hlt
            simp only [Nat.zero_add] at hcell
            have hxl := HXL.out (xs[k]?.getD []) (by rw [List.getElem?_eq_getElem hlt, Option.getD_some]; exact List.getElem_mem hlt)
            have HPT := Lib.hid (ppOk_take hlt HOK.out)
            have HPV := Lib.hid (ppV_take hlt)
            have HNO := Lib.hid (fun (h : wdOk (xs[k]?.getD []) = false) => rc_bad HSX.out (ppOk_no hlt h))
            have hplen : (ppV (xs.take k)).length ≤ 1000000000 := by unfold ppV; simp; omega
            generalize xs[k]?.getD [] = x at *
            obtain ⟨l1, l2⟩ := cut_len 58 x
            have hwd : wdOk x = (numOk 9 (cut1 58 x).1 && numOk 9 (cut1 58 x).2.1) := rfl
            have hwv : wdV x = (val (cut1 58 x).1, val (cut1 58 x).2.1) := rfl
            have hDB : (cut1 58 x).2.2 = false → numOk 9 (cut1 58 x).2.1 = false := fun h => by rw [cut_no h]; decide
            have HC := Lib.hid (fun w' => show Calls Tryd.prog 55 #[.string (bs x), .string ⟨#[58]⟩] w' fun e w'' => e = .returned (.tuple #[.string (bs (cut1 58 x).1), .string (bs (cut1 58 x).2.1), .bool (cut1 58 x).2.2]) ∧ Gr w' w'' from by
              have := cut_any (bs x) 58 w' (by rw [bs_size]; omega)
              unfold cutR at this
              rwa [bs_list] at this)
            have HA := Lib.hid (fun w' => show Calls Tryd.prog 48 #[.string (bs (cut1 58 x).1), .int .i64 9] w' fun e w'' => e = .returned (.tuple #[.int .i64 (if numOk 9 (cut1 58 x).1 = true then val (cut1 58 x).1 else 0), .bool (numOk 9 (cut1 58 x).1)]) ∧ Bl w' w'' from by
              have := numberR (bs (cut1 58 x).1) 9 w' (by rw [bs_size]; omega) (by decide)
              unfold numM at this
              rwa [bs_list] at this)
            have HB := Lib.hid (fun w' => show Calls Tryd.prog 48 #[.string (bs (cut1 58 x).2.1), .int .i64 9] w' fun e w'' => e = .returned (.tuple #[.int .i64 (if numOk 9 (cut1 58 x).2.1 = true then val (cut1 58 x).2.1 else 0), .bool (numOk 9 (cut1 58 x).2.1)]) ∧ Bl w' w'' from by
              have := numberR (bs (cut1 58 x).2.1) 9 w' (by rw [bs_size]; omega) (by decide)
              unfold numM at this
              rwa [bs_list] at this)
            generalize numOk 9 (cut1 58 x).1 = oA at *
            generalize numOk 9 (cut1 58 x).2.1 = oB at *
            generalize (cut1 58 x).1 = A at *
            generalize (cut1 58 x).2.1 = B at *
            generalize (cut1 58 x).2.2 = D at *
            have hdec : (oA = true ∧ oB = true ∧ D = true) ∨ ((oA && oB) = false ∧ (D = false ∨ (D = true ∧ oA = false) ∨ (D = true ∧ oA = true ∧ oB = false))) := by
              cases oA <;> cases oB <;> cases D <;> simp at hDB ⊢
            rcases hdec with ⟨rfl, rfl, rfl⟩ | ⟨hno, hbad⟩
            · have HV := Lib.hid hwv
              have HD := Lib.hid hwd
              simp only [if_true] at HA HB
              clear hwv hwd l1 l2 hxl HNO hDB
              generalize val A = va at *
              generalize val B = vb at *
              go_wp2_with fail
              refine (HC.out _).mono ?_
              rintro e w3 ⟨rfl, g3⟩
              go_wp2_with fail
              refine (HA.out _).mono ?_
              rintro e w4 ⟨rfl, g4⟩
              go_wp2_with fail
              refine (HB.out _).mono ?_
              rintro e w5 ⟨rfl, g5⟩
              have ga : Bl wr w5 := (g3.bl.trans g4).trans g5
              have hbx : w5.heap[w2.heap.size]? = some (.cells #[.int .i64 6, v] 24 (0, 0)) := (ga.block _ (box_lt HBOX.out)).trans HBOX.out
              have hlt5 := box_lt hbx
              obtain ⟨q0, q1, _, _⟩ := two_of hbx
              have HBX := Lib.hid hbx
              have HR5 := Lib.hid (HROW.out.bl ga)
              have HBL5 := Lib.hid (hblr.trans ga)
              clear g3 g4 g5 ga hblr hbx hcell
              go_wp2_with (at_builtin; refine app_pair Tryd.underlying22 infoR rfl _ _ rfl (w2.heap.size + 1) w5 _ _ va vb HR5.out rfl rfl hplen hlt5 ?_; intro v' w6 hrow6 hbl6 hg6; have HBX6 := Lib.hid (Row.far HR5.out hg6 (Nat.lt_succ_self _) HBX.out); obtain ⟨p0, p1, p2, p3⟩ := two_of HBX6.out; have HR6 := Lib.hid hrow6; have HB6 := Lib.hid (hbl6 w2 HBL5.out (Nat.le_succ _)); obtain ⟨g9, cap9, hv9⟩ := row_succ hrow6; simp only [List.length_append, List.length_cons, List.length_nil, Nat.zero_add] at hv9; clear hrow6 hbl6 hg6; subst hv9)
              go_roundw
              case rel => exact ⟨k + 1, _, by omega, by go_num, two_set _ HBX6.out, by rw [HPV.out, HV.out]; exact row_set HR6.out (Nat.lt_succ_self _) _, by rw [HPT.out, HD.out]; rfl, HB6.out.setCell (p := ⟨w2.heap.size, 1, none⟩) (Nat.le_refl _) _⟩
              case measure => simp [intOf]; omega
            · have HX := Lib.hid (HNO.out (by rw [hwd]; exact hno))
              clear hwd hwv l1 l2 hxl HPT HPV HNO hDB hno
              generalize (if oA = true then val A else 0) = va at *
              generalize (if oB = true then val B else 0) = vb at *
              rcases hbad with rfl | ⟨rfl, rfl⟩ | ⟨rfl, rfl, rfl⟩
              · go_wp2_with fail
                refine (HC.out _).mono ?_
                rintro e w3 ⟨rfl, g3⟩
                go_wp2_with fail
                refine (HA.out _).mono ?_
                rintro e w4 ⟨rfl, g4⟩
                go_wp2_with fail
                refine (HB.out _).mono ?_
                rintro e w5 ⟨rfl, g5⟩
                have ga : Bl wr w5 := (g3.bl.trans g4).trans g5
                replace r0 := ga.cell r0
                replace r1 := ga.cell r1
                replace f2 : w5.frozen? ⟨w.heap.size, 0, none⟩ = false := by rw [ga.frozen (by have := hblr.size; show w.heap.size < wr.heap.size; omega)]; exact f2
                replace f3 : w5.frozen? ⟨w.heap.size, 1, none⟩ = false := by rw [ga.frozen (by have := hblr.size; show w.heap.size < wr.heap.size; omega)]; exact f3
                have hbw5 : Bl w w5 := hbw.trans ga
                clear g3 g4 g5 ga
                go_wp2_with fail
                obtain ⟨z0, z1⟩ := st2 (.int .i64 0) (.slice none 0 0) r0 r1
                have hb5 := (hbw5.setCell (p := ⟨w.heap.size, 0, none⟩) (Nat.le_refl _) (.int .i64 0)).setCell (p := ⟨w.heap.size, 1, none⟩) (Nat.le_refl _) (.slice none 0 0)
                have Y0 := Lib.hid z0
                have Y1 := Lib.hid z1
                have B5 := Lib.hid hb5
                have HKL := Lib.hid (rc_no (l := s.data.toList) (by rw [HX.out]; decide))
                refine bodyPost_ret (v := .tuple #[.agg #[.int .i64 0, .slice none 0 0], .int .i64 9]) (by simp [results, Tryd.results28, go_sem, Y0.out, Y1.out]) rfl ⟨.slice none 0 0, by rw [HX.out, HKL.out.1], by rw [HKL.out.2]; exact Or.inl ⟨_, _, rfl, rfl⟩, B5.out⟩
              · go_wp2_with fail
                refine (HC.out _).mono ?_
                rintro e w3 ⟨rfl, g3⟩
                go_wp2_with fail
                refine (HA.out _).mono ?_
                rintro e w4 ⟨rfl, g4⟩
                go_wp2_with fail
                refine (HB.out _).mono ?_
                rintro e w5 ⟨rfl, g5⟩
                have ga : Bl wr w5 := (g3.bl.trans g4).trans g5
                replace r0 := ga.cell r0
                replace r1 := ga.cell r1
                replace f2 : w5.frozen? ⟨w.heap.size, 0, none⟩ = false := by rw [ga.frozen (by have := hblr.size; show w.heap.size < wr.heap.size; omega)]; exact f2
                replace f3 : w5.frozen? ⟨w.heap.size, 1, none⟩ = false := by rw [ga.frozen (by have := hblr.size; show w.heap.size < wr.heap.size; omega)]; exact f3
                have hbw5 : Bl w w5 := hbw.trans ga
                clear g3 g4 g5 ga
                go_wp2_with fail
                obtain ⟨z0, z1⟩ := st2 (.int .i64 0) (.slice none 0 0) r0 r1
                have hb5 := (hbw5.setCell (p := ⟨w.heap.size, 0, none⟩) (Nat.le_refl _) (.int .i64 0)).setCell (p := ⟨w.heap.size, 1, none⟩) (Nat.le_refl _) (.slice none 0 0)
                have Y0 := Lib.hid z0
                have Y1 := Lib.hid z1
                have B5 := Lib.hid hb5
                have HKL := Lib.hid (rc_no (l := s.data.toList) (by rw [HX.out]; decide))
                refine bodyPost_ret (v := .tuple #[.agg #[.int .i64 0, .slice none 0 0], .int .i64 9]) (by simp [results, Tryd.results28, go_sem, Y0.out, Y1.out]) rfl ⟨.slice none 0 0, by rw [HX.out, HKL.out.1], by rw [HKL.out.2]; exact Or.inl ⟨_, _, rfl, rfl⟩, B5.out⟩
              · go_wp2_with fail
                refine (HC.out _).mono ?_
                rintro e w3 ⟨rfl, g3⟩
                go_wp2_with fail
                refine (HA.out _).mono ?_
                rintro e w4 ⟨rfl, g4⟩
                go_wp2_with fail
                refine (HB.out _).mono ?_
                rintro e w5 ⟨rfl, g5⟩
                have ga : Bl wr w5 := (g3.bl.trans g4).trans g5
                replace r0 := ga.cell r0
                replace r1 := ga.cell r1
                replace f2 : w5.frozen? ⟨w.heap.size, 0, none⟩ = false := by rw [ga.frozen (by have := hblr.size; show w.heap.size < wr.heap.size; omega)]; exact f2
                replace f3 : w5.frozen? ⟨w.heap.size, 1, none⟩ = false := by rw [ga.frozen (by have := hblr.size; show w.heap.size < wr.heap.size; omega)]; exact f3
                have hbw5 : Bl w w5 := hbw.trans ga
                clear g3 g4 g5 ga
                go_wp2_with fail
                obtain ⟨z0, z1⟩ := st2 (.int .i64 0) (.slice none 0 0) r0 r1
                have hb5 := (hbw5.setCell (p := ⟨w.heap.size, 0, none⟩) (Nat.le_refl _) (.int .i64 0)).setCell (p := ⟨w.heap.size, 1, none⟩) (Nat.le_refl _) (.slice none 0 0)
                have Y0 := Lib.hid z0
                have Y1 := Lib.hid z1
                have B5 := Lib.hid hb5
                have HKL := Lib.hid (rc_no (l := s.data.toList) (by rw [HX.out]; decide))
                refine bodyPost_ret (v := .tuple #[.agg #[.int .i64 0, .slice none 0 0], .int .i64 9]) (by simp [results, Tryd.results28, go_sem, Y0.out, Y1.out]) rfl ⟨.slice none 0 0, by rw [HX.out, HKL.out.1], by rw [HKL.out.2]; exact Or.inl ⟨_, _, rfl, rfl⟩, B5.out⟩
          · obtain rfl : k = xs.length := by omega
            rw [List.take_of_length_le (Nat.le_refl _)] at HROW HOK
            have HTB := Lib.hid (rc_tab HSX.out H6.out HOK.out)
            have HV := Lib.hid HROW.out.pts
            obtain ⟨q0, q1, _, _⟩ := two_of HBOX.out
            obtain ⟨o5, n5, c5, hv⟩ := HROW.out.pts.form
            subst hv
            by_cases hck : ckCurve 6 (ppV xs) = 0
            · have HX := Lib.hid (show rcX s.data.toList = 0 by rw [HTB.out.1]; exact hck)
              have HCC := Lib.hid hck
              clear hck
              go_wp2_with fail
              refine (HCK.out _ (ppV xs) _ HV.out).mono ?_
              rintro e w5 ⟨rfl, g5⟩
              rw [HCC.out]
              replace r0 := g5.cell r0
              replace r1 := g5.cell r1
              replace q0 := g5.cell q0
              replace q1 := g5.cell q1
              replace f2 : w5.frozen? ⟨w.heap.size, 0, none⟩ = false := by rw [g5.frozen (by have := hblr.size; show w.heap.size < wr.heap.size; omega)]; exact f2
              replace f3 : w5.frozen? ⟨w.heap.size, 1, none⟩ = false := by rw [g5.frozen (by have := hblr.size; show w.heap.size < wr.heap.size; omega)]; exact f3
              have hbw5 : Bl w w5 := hbw.trans g5
              have HR5 := Lib.hid (HROW.out.bl g5)
              clear g5
              go_wp2_with fail
              obtain ⟨z0, z1⟩ := st2 (.int .i64 6) (.slice o5 n5 c5) r0 r1
              have hb5 := (hbw5.setCell (p := ⟨w.heap.size, 0, none⟩) (Nat.le_refl _) (.int .i64 6)).setCell (p := ⟨w.heap.size, 1, none⟩) (Nat.le_refl _) (.slice o5 n5 c5)
              have hr8 := (row_set (j := 1) (row_set (j := 0) HR5.out (Nat.lt_succ_of_lt hs0) (.int .i64 6)) (Nat.lt_succ_of_lt hs0) (.slice o5 n5 c5)).pts
              have Y0 := Lib.hid z0
              have Y1 := Lib.hid z1
              have B5 := Lib.hid hb5
              have R8 := Lib.hid hr8
              have HKL := Lib.hid (HTB.out.2 HX.out)
              refine bodyPost_ret (v := .tuple #[.agg #[.int .i64 6, .slice o5 n5 c5], .int .i64 0]) (by simp [results, Tryd.results28, go_sem, Y0.out, Y1.out]) rfl ⟨.slice o5 n5 c5, by rw [HX.out, HKL.out.1], by rw [HKL.out.2]; exact R8.out, B5.out⟩
            · have HX := Lib.hid HTB.out.1
              have hcn : (ckCurve 6 (ppV xs) != 0) = true := by simpa using hck
              have HCN := Lib.hid hck
              have HCC := Lib.hid (HCK.out _ (ppV xs) _ HV.out)
              clear hck
              generalize ckCurve 6 (ppV xs) = cc at *
              go_wp2_with fail
              refine HCC.out.mono ?_
              rintro e w5 ⟨rfl, g5⟩
              replace r0 := g5.cell r0
              replace r1 := g5.cell r1
              replace f2 : w5.frozen? ⟨w.heap.size, 0, none⟩ = false := by rw [g5.frozen (by have := hblr.size; show w.heap.size < wr.heap.size; omega)]; exact f2
              replace f3 : w5.frozen? ⟨w.heap.size, 1, none⟩ = false := by rw [g5.frozen (by have := hblr.size; show w.heap.size < wr.heap.size; omega)]; exact f3
              have hbw5 : Bl w w5 := hbw.trans g5
              clear g5
              go_wp2_with fail
              obtain ⟨z0, z1⟩ := st2 (.int .i64 0) (.slice none 0 0) r0 r1
              have hb5 := (hbw5.setCell (p := ⟨w.heap.size, 0, none⟩) (Nat.le_refl _) (.int .i64 0)).setCell (p := ⟨w.heap.size, 1, none⟩) (Nat.le_refl _) (.slice none 0 0)
              have Y0 := Lib.hid z0
              have Y1 := Lib.hid z1
              have B5 := Lib.hid hb5
              have HKL := Lib.hid (rc_no (l := s.data.toList) (by rw [HX.out]; exact HCN.out))
              refine bodyPost_ret (v := .tuple #[.agg #[.int .i64 0, .slice none 0 0], .int .i64 cc]) (by simp [results, Tryd.results28, go_sem, Y0.out, Y1.out]) rfl ⟨.slice none 0 0, by rw [HX.out, HKL.out.1], by rw [HKL.out.2]; exact Or.inl ⟨_, _, rfl, rfl⟩, B5.out⟩
    · have hb : ((bs x0).toList == [116, 97, 98, 108, 101]) = false := by
        rw [Lib.toList_data, bs_list]
        exact beq_eq_false_iff_ne.2 h6
      have HX := Lib.hid (rc_not HSX.out HN.out h6)
      clear h6
      go_wp2_with fail
      obtain ⟨z0, z1⟩ := st2 (.int .i64 0) (.slice none 0 0) r0 r1
      have hb5 := (hbl2.setCell (p := ⟨w.heap.size, 0, none⟩) (Nat.le_refl _) (.int .i64 0)).setCell (p := ⟨w.heap.size, 1, none⟩) (Nat.le_refl _) (.slice none 0 0)
      have Y0 := Lib.hid z0
      have Y1 := Lib.hid z1
      have B5 := Lib.hid hb5
      have HKL := Lib.hid (rc_no (l := s.data.toList) (by rw [HX.out]; decide))
      refine bodyPost_ret (v := .tuple #[.agg #[.int .i64 0, .slice none 0 0], .int .i64 9]) (by simp [results, Tryd.results28, go_sem, Y0.out, Y1.out]) rfl ⟨.slice none 0 0, by rw [HX.out, HKL.out.1], by rw [HKL.out.2]; exact Or.inl ⟨_, _, rfl, rfl⟩, B5.out⟩
end Go.Proofs.YtfeeolfekfkdiaaDoor
