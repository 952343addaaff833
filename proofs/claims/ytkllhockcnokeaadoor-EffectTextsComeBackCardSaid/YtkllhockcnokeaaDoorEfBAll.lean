/- EffectTextsComeBack: Read reads what Text writes, for all effects, with no condition. The listed variables are tied to the program's text by the card. -/
import Derived.Test.YtkllhockcnokeaaDoorEfWm
import Derived.Test.YtkllhockcnokeaaDoorEfTp
import Derived.Test.YtkllhockcnokeaaDoorTkL
import Derived.Test.YtkllhockcnokeaaDoorStN
import Derived.Test.YtkllhockcnokeaaDoorGrn
import Derived.Test.YtkllhockcnokeaaDoorBl
import Derived.Laws.OwnMore
import Derived.Maps.AppendAt
import Derived.Deep.AppendLies
import Derived.Deep.DeepCutAuto
import Derived.Test.YtkllhockcnokeaaDoorEfC
import Derived.Deep.QuietTactic
import Derived.Test.YtkllhockcnokeaaDoorGr
import Derived.ProofKit
import Derived.OpenShut
import Derived.Handy
import Derived.Deep.Slices
import Derived.Test.YtkllhockcnokeaaDoorTie
import Derived.Test.YtkllhockcnokeaaDoorCards
import Derived.LaidMore
import Derived.Lay
import Derived.SevenTiedAt
import Derived.Shelf.Vars
import Derived.Lib.LaidTab
import Derived.Stop.LaidErr
import Derived.MakeChecks
import Derived.Test.YtkllhockcnokeaaDoorTxk
import Derived.Test.YtkllhockcnokeaaDoorEfM
import Derived.Test.YtkllhockcnokeaaDoorSpl
import Derived.Test.YtkllhockcnokeaaDoorEfPer
import Derived.SizedLaws
/- readForm, readSpread, readStep of the program on the words that Text writes, and Take with each of them. -/
namespace Go.Proofs.YtkllhockcnokeaaDoor
open Go.RowKit Go.Sort Go.Lib

theorem fW_ne {j k : Nat} (h1 : 1 ≤ j) (h2 : j < k) (h3 : k ≤ 7) : fW j ≠ fW k := by
  have hj : j = 1 ∨ j = 2 ∨ j = 3 ∨ j = 4 ∨ j = 5 ∨ j = 6 := by omega
  have hk : k = 2 ∨ k = 3 ∨ k = 4 ∨ k = 5 ∨ k = 6 ∨ k = 7 := by omega
  rcases hj with rfl | rfl | rfl | rfl | rfl | rfl <;> rcases hk with rfl | rfl | rfl | rfl | rfl | rfl <;> first | (exfalso; omega) | decide
set_option maxHeartbeats 1600000 in
theorem readForm_ok (k : Nat) (h1 : 1 ≤ k) (h7 : k ≤ 7) (w : World) (hf : FwAt w) :
    Calls Tryd.prog 35 #[.string (bs (fW k))] w fun e w' => e = .returned (.tuple #[.int .i64 k, .int .i64 0]) ∧ w' = w := by
  have HG := Lib.hid hf
  clear hf
  obtain ⟨S, hS⟩ : ∃ S, S = bs (fW k) := ⟨_, rfl⟩
  have HS := Lib.hid hS
  rw [← hS]
  clear hS
  go_enter Tryd.func35, Tryd.ntmps35
  go_wp2
  go_loop [4] (fun vk => ∃ j : Nat, 1 ≤ j ∧ j ≤ k ∧ vk = .int .i64 j) (fun vk => (k - intOf vk).toNat)
  case atStart => exact ⟨1, by decide, h1, rfl⟩
  case round =>
    obtain ⟨j, hj1, hjk, rfl⟩ := hrel
    have c := HG.out j (by omega)
    have i8 : (j : Int) < 8 := by omega
    have i7 : (j : Int) ≤ 7 := by omega
    have t : ((bs (fW j)).toList == S.toList) = decide (fW j = fW k) := by rw [HS.out, Lib.toList_data, Lib.toList_data, bs_list, bs_list, Bool.eq_iff_iff]; simp
    generalize bs (fW j) = W at *
    by_cases hq : j = k
    · have hq' : decide (fW j = fW k) = true := decide_eq_true (by rw [hq])
      rw [hq'] at t
      have HQ := Lib.hid hq
      clear hq hq'
      go_wp2
      go_returns
      exact ⟨by rw [← HQ.out]; rfl, rfl⟩
    · rw [decide_eq_false (fW_ne hj1 (by omega) h7)] at t
      have hlt : j < k := by omega
      clear hq
      go_wp2
      go_round
      case rel => exact ⟨j + 1, by omega, by omega, by go_num⟩
      case measure => simp [intOf]; omega
set_option maxHeartbeats 800000 in
theorem readSpread_pos (z : Int) (h : 1 ≤ z) (h2 : z ≤ 10000) (w : World) :
    Calls Tryd.prog 40 #[.string (bs (Lib.itoa z))] w fun e w' => e = .returned (.tuple #[.int .i64 z, .int .i64 0]) ∧ w' = w := by
  have HC := Lib.hid (fun w => Tryd.strings_CutPrefix (bs (Lib.itoa z)) ⟨#[45]⟩ w)
  have hp : Lib.hasPrefix (bs (Lib.itoa z)).data.toList [45] = false := by
    rw [bs_list, (pre_of _ _).1, itoa_pos (by omega), beq_eq_false_iff_ne]
    exact dd_first _
  have ht : Lib.trimPrefix (bs (Lib.itoa z)).data.toList [45] = decDigits z.toNat := by
    unfold Lib.trimPrefix; rw [hp, bs_list, itoa_pos (by omega)]; rfl
  have HN := Lib.hid (fun w => number_any (bs (decDigits z.toNat)) w (by rw [bs_size]; have := dd_len z.toNat 5 (by decide) (by omega); omega))
  obtain ⟨d1, d2⟩ := dd_val9 (n := z) (by omega) (by omega)
  have hr : numR (bs (decDigits z.toNat)) = .returned (.tuple #[.int .i64 z, .bool true]) := by unfold numR; rw [bs_list, d1, numV_ok d1, d2]
  rw [hr] at HN
  have e1 : (Ending.returned (.tuple #[.string ⟨(Lib.trimPrefix (bs (Lib.itoa z)).data.toList [45]).toArray⟩, .bool (Lib.hasPrefix (bs (Lib.itoa z)).data.toList [45])])) = .returned (.tuple #[.string (bs (decDigits z.toNat)), .bool false]) := by rw [hp, ht]; rfl
  have HC2 := Lib.hid (fun w => by have := HC.out w; rw [show (⟨#[45]⟩ : ByteArray).data.toList = [45] from rfl, e1] at this; exact this)
  have t0 : (z == 0) = false := by rw [beq_eq_false_iff_ne]; omega
  clear hp ht d1 d2 hr e1 HC
  generalize bs (decDigits z.toNat) = D at *
  generalize bs (Lib.itoa z) = S at *
  go_enter Tryd.func40, Tryd.ntmps40
  go_wp2_with (first
    | (go_at_call 53; refine (HC2.out _).mono ?_; rintro e w1 ⟨rfl, rfl⟩)
    | (go_at_call 54; refine (HN.out _).mono ?_; rintro e w2 ⟨rfl, rfl⟩))
  go_returns
  exact ⟨rfl, rfl⟩
set_option maxHeartbeats 800000 in
theorem readSpread_neg (z : Int) (h : z ≤ -1) (h2 : -10000 ≤ z) (w : World) :
    Calls Tryd.prog 40 #[.string (bs (Lib.itoa z))] w fun e w' => e = .returned (.tuple #[.int .i64 z, .int .i64 0]) ∧ w' = w := by
  have HC := Lib.hid (fun w => Tryd.strings_CutPrefix (bs (Lib.itoa z)) ⟨#[45]⟩ w)
  obtain ⟨y, hy⟩ : ∃ y : Int, y = -z := ⟨_, rfl⟩
  have hzy : Lib.itoa z = 45 :: decDigits y.toNat := by rw [itoa_neg' (by omega), show z.natAbs = y.toNat by omega]
  have hp : Lib.hasPrefix (bs (Lib.itoa z)).data.toList [45] = true := by
    rw [bs_list, (pre_of _ _).1, hzy]; rfl
  have ht : Lib.trimPrefix (bs (Lib.itoa z)).data.toList [45] = decDigits y.toNat := by
    rw [bs_list, (pre_of _ _).2 (by rw [hzy]; rfl), hzy]; rfl
  have HN := Lib.hid (fun w => number_any (bs (decDigits y.toNat)) w (by rw [bs_size]; have := dd_len y.toNat 5 (by decide) (by omega); omega))
  obtain ⟨d1, d2⟩ := dd_val9 (n := y) (by omega) (by omega)
  have hr : numR (bs (decDigits y.toNat)) = .returned (.tuple #[.int .i64 y, .bool true]) := by unfold numR; rw [bs_list, d1, numV_ok d1, d2]
  rw [hr] at HN
  have e1 : (Ending.returned (.tuple #[.string ⟨(Lib.trimPrefix (bs (Lib.itoa z)).data.toList [45]).toArray⟩, .bool (Lib.hasPrefix (bs (Lib.itoa z)).data.toList [45])])) = .returned (.tuple #[.string (bs (decDigits y.toNat)), .bool true]) := by rw [hp, ht]; rfl
  have HC2 := Lib.hid (fun w => by have := HC.out w; rw [show (⟨#[45]⟩ : ByteArray).data.toList = [45] from rfl, e1] at this; exact this)
  have t0 : (y == 0) = false := by rw [beq_eq_false_iff_ne]; omega
  have y1 : 1 ≤ y := by omega
  have y2 : y ≤ 10000 := by omega
  have HZ : Hid (-y = z) := by show _ = _; omega
  clear hp ht d1 d2 hr e1 HC hy hzy
  generalize bs (decDigits y.toNat) = D at *
  generalize bs (Lib.itoa z) = S at *
  go_enter Tryd.func40, Tryd.ntmps40
  go_wp2_with (first
    | (go_at_call 53; refine (HC2.out _).mono ?_; rintro e w1 ⟨rfl, rfl⟩)
    | (go_at_call 54; refine (HN.out _).mono ?_; rintro e w2 ⟨rfl, rfl⟩))
  go_returns
  exact ⟨by rw [← HZ.out]; rfl, rfl⟩
theorem readSpread_ok (z : Int) (h : z ≠ 0) (h1 : -10000 ≤ z) (h2 : z ≤ 10000) (w : World) :
    Calls Tryd.prog 40 #[.string (bs (Lib.itoa z))] w fun e w' => e = .returned (.tuple #[.int .i64 z, .int .i64 0]) ∧ w' = w := by
  by_cases hz : 1 ≤ z
  · exact readSpread_pos z hz h2 w
  · exact readSpread_neg z (by omega) h1 w

set_option maxRecDepth 100000 in
set_option maxHeartbeats 1600000 in
theorem readStep_ok (x : Stp) (h : stpOk x = true) (w : World) :
    Calls Tryd.prog 43 #[.string (bs (stWd x))] w fun e w' => e = .returned (.tuple #[.agg #[.int .i64 x.lv, .int .i64 x.ho, .int .i64 x.fa], .int .i64 0]) ∧ Bl w w' := by
  obtain ⟨⟨l1, l2⟩, h1, h2, h3, h4⟩ := stpOk_iff.1 h
  have zl := lvShow_l10 l1 l2
  have zh := itoa_l8 (n := x.ho) (by omega) (by omega)
  have zf := itoa_l8 (n := x.fa) (by omega) (by omega)
  have HC1 := Lib.hid (fun w => by
    have := cut_any (bs (stWd x)) 58 w (by rw [bs_size]; unfold stWd; simp only [List.length_append, List.length_cons, List.length_nil]; omega)
    unfold cutR at this; rw [bs_list, cut_step] at this; exact this)
  have HC2 := Lib.hid (fun w => by
    have := cut_any (bs (Lib.itoa x.ho ++ 58 :: Lib.itoa x.fa)) 58 w (by rw [bs_size]; simp only [List.length_append, List.length_cons]; omega)
    unfold cutR at this; rw [bs_list, cut_times] at this; exact this)
  have HL := Lib.hid (fun w => by
    have := read_any (bs (lvShow x.lv)) w (by rw [bs_size]; omega)
    have hl := level_show x.lv l1 l2
    rw [lr_of (bs (lvShow x.lv)) x.lv true (by rw [bs_list]; exact hl.2) (by rw [bs_list]; exact hl.1)] at this
    exact this)
  have HN1 := Lib.hid (fun w => by
    have := number_any (bs (Lib.itoa x.ho)) w (by rw [bs_size]; omega)
    obtain ⟨d1, d2⟩ := dd_val9 (n := x.ho) h1 (by omega)
    unfold numR at this; rw [bs_list, itoa_pos h1, d1, numV_ok d1, d2, ← itoa_pos h1] at this; exact this)
  have HN2 := Lib.hid (fun w => by
    have := number_any (bs (Lib.itoa x.fa)) w (by rw [bs_size]; omega)
    obtain ⟨d1, d2⟩ := dd_val9 (n := x.fa) h3 (by omega)
    unfold numR at this; rw [bs_list, itoa_pos h3, d1, numV_ok d1, d2, ← itoa_pos h3] at this; exact this)
  obtain ⟨a, b, c⟩ := x
  simp only at *
  clear zl zh zf h l1 l2 h1 h2 h3 h4
  generalize bs (stWd ⟨a, b, c⟩) = S at *
  generalize bs (lvShow a) = A at *
  generalize bs (Lib.itoa b ++ 58 :: Lib.itoa c) = T at *
  generalize bs (Lib.itoa b) = B at *
  generalize bs (Lib.itoa c) = C at *
  obtain ⟨W0, hW0⟩ : ∃ W0, W0 = w.alloc (.cells #[.int .i64 0, .int .i64 0, .int .i64 0] 38) := ⟨_, rfl⟩
  have bW : Bl w W0 := by rw [hW0]; exact (Bl.refl w).alloc _
  have q0 : W0.cell? ⟨w.heap.size, 0, none⟩ = some (.int .i64 0) := by rw [hW0]; simp
  have q1 : W0.cell? ⟨w.heap.size, 1, none⟩ = some (.int .i64 0) := by rw [hW0]; simp
  have q2 : W0.cell? ⟨w.heap.size, 2, none⟩ = some (.int .i64 0) := by rw [hW0]; simp
  have fz : ∀ i, W0.frozen? ⟨w.heap.size, i, none⟩ = false := fun i => by rw [hW0]; simp
  have hlt : w.heap.size < W0.heap.size := World.block_lt_of_cell? _ _ q0
  have HB := Lib.hid (Bl.refl W0)
  go_enter Tryd.func43, Tryd.ntmps43
  go_wp2_with fail
  rw [← hW0]
  clear hW0
  go_wp2_with (first
    | (go_at_call 57; (with_reducible refine (HC1.out _).mono ?_); rintro e w1 ⟨rfl, m1⟩; replace HB := Lib.hid (HB.out.trans m1.bl); clear m1)
    | (go_at_call 57; (with_reducible refine (HC2.out _).mono ?_); rintro e w1' ⟨rfl, m1⟩; replace HB := Lib.hid (HB.out.trans m1.bl); clear m1)
    | (go_at_call 37; (with_reducible refine (HL.out _).mono ?_); rintro e w2 ⟨rfl, m1⟩; replace HB := Lib.hid (HB.out.trans m1.bl); clear m1; have e0 := HB.out.cell q0; have e1 := HB.out.cell q1; have e2 := HB.out.cell q2; have f0 := (HB.out.frozen (p := ⟨w.heap.size, 0, none⟩) hlt).trans (fz 0); have f1 := (HB.out.frozen (p := ⟨w.heap.size, 1, none⟩) hlt).trans (fz 1); have f2 := (HB.out.frozen (p := ⟨w.heap.size, 2, none⟩) hlt).trans (fz 2); clear q0 q1 q2 fz)
    | (go_at_call 54; (with_reducible refine (HN1.out _).mono ?_); rintro e w3 ⟨rfl, rfl⟩)
    | (go_at_call 54; (with_reducible refine (HN2.out _).mono ?_); rintro e w4 ⟨rfl, rfl⟩))
  obtain ⟨E0, E1, E2⟩ := stv3 (.int .i64 a) (.int .i64 b) (.int .i64 c) e0 e1 e2
  have hfin := stb3 (bW.trans HB.out) (Nat.le_refl _) (.int .i64 a) (.int .i64 b) (.int .i64 c)
  refine bodyPost_ret (v := .tuple #[.agg #[.int .i64 a, .int .i64 b, .int .i64 c], .int .i64 0]) ?_ rfl ⟨rfl, hfin⟩
  simp [results, Tryd.results43, go_sem, E0, E1, E2]
set_option maxHeartbeats 1600000 in
theorem takeForm_ok (n : Nat) (k : Nat) (h1 : 1 ≤ k) (h7 : k ≤ 7) (t : List (List UInt8)) (w : World) (h : LineV w n (fW k :: t) false) (hf : ∀ w', w.grownBy w' (some n) → FwAt w') :
    Calls Tryd.prog 34 #[.pointer (some ⟨n, 0, none⟩), .func (.func 35) #[] #[]] w fun e w' => e = .returned (.int .i64 k) ∧ LineV w' n t false ∧ w.grownBy w' (some n) := by
  have HN := Lib.hid (next_ok n (fW k) t w h)
  have HR := Lib.hid (fun w' (m : w.grownBy w' (some n)) => readForm_ok k h1 h7 w' (hf w' m))
  have HM := Lib.hid (fun w' (h' : LineV w' n t false) => must_any n t false true w' h')
  clear h
  generalize bs (fW k) = S at *
  go_enter Tryd.func34, Tryd.ntmps34
  go_wp2_with (first
    | (go_at_call 51; refine HN.out.mono ?_; rintro e w1 ⟨rfl, l1, g1⟩; have L1 := Lib.hid l1; clear l1)
    | (go_at_call 35; refine (HR.out _ g1).mono ?_; rintro e w2 ⟨rfl, he⟩; have m2 := Lib.hid (show Bl w1 w2 by rw [he]; exact Bl.refl _); clear he)
    | (go_at_call 52; refine (HM.out _ (L1.out.bl m2.out)).mono ?_; rintro e w3 ⟨rfl, l3, g3⟩; have L3 := Lib.hid l3; clear l3))
  go_ret
  exact ⟨rfl, L3.out, (g1.trans (bl_grown m2.out n)).trans g3⟩
set_option maxHeartbeats 1600000 in
theorem takeSpread_ok (n : Nat) (z : Int) (hz : z ≠ 0) (h1 : -10000 ≤ z) (h2 : z ≤ 10000) (t : List (List UInt8)) (w : World) (h : LineV w n (Lib.itoa z :: t) false) :
    Calls Tryd.prog 34 #[.pointer (some ⟨n, 0, none⟩), .func (.func 40) #[] #[]] w fun e w' => e = .returned (.int .i64 z) ∧ LineV w' n t false ∧ w.grownBy w' (some n) := by
  have HN := Lib.hid (next_ok n (Lib.itoa z) t w h)
  have HR := Lib.hid (fun w' (m : w.grownBy w' (some n)) => readSpread_ok z hz h1 h2 w')
  have HM := Lib.hid (fun w' (h' : LineV w' n t false) => must_any n t false true w' h')
  clear h
  generalize bs (Lib.itoa z) = S at *
  go_enter Tryd.func34, Tryd.ntmps34
  go_wp2_with (first
    | (go_at_call 51; refine HN.out.mono ?_; rintro e w1 ⟨rfl, l1, g1⟩; have L1 := Lib.hid l1; clear l1)
    | (go_at_call 40; refine (HR.out _ g1).mono ?_; rintro e w2 ⟨rfl, he⟩; have m2 := Lib.hid (show Bl w1 w2 by rw [he]; exact Bl.refl _); clear he)
    | (go_at_call 52; refine (HM.out _ (L1.out.bl m2.out)).mono ?_; rintro e w3 ⟨rfl, l3, g3⟩; have L3 := Lib.hid l3; clear l3))
  go_ret
  exact ⟨rfl, L3.out, (g1.trans (bl_grown m2.out n)).trans g3⟩
set_option maxRecDepth 100000 in
set_option maxHeartbeats 1600000 in
theorem takeStep_ok (n : Nat) (x : Stp) (hx : stpOk x = true) (t : List (List UInt8)) (w : World) (h : LineV w n (stWd x :: t) false) (hn : n < w.heap.size) :
    Calls Tryd.prog 42 #[.pointer (some ⟨n, 0, none⟩), .func (.func 43) #[] #[]] w fun e w' => e = .returned (.agg #[.int .i64 x.lv, .int .i64 x.ho, .int .i64 x.fa]) ∧ LineV w' n t false ∧ w.grownBy w' (some n) := by
  have hbl := (Bl.refl w).alloc (.cells #[.int .i64 0, .int .i64 0, .int .i64 0] 38)
  have hN := Lib.hid (next_ok n (stWd x) t _ (h.bl hbl))
  have hR := Lib.hid (readStep_ok x hx)
  have hz : w.heap.size ≠ n := by omega
  obtain ⟨a, b, c⟩ := x
  clear h hx hbl
  simp only at *
  generalize bs (stWd ⟨a, b, c⟩) = S at *
  go_enter Tryd.func42, Tryd.ntmps42
  go_wp2_with (first
    | (go_at_call 51; refine hN.out.mono ?_; rintro e w1 ⟨rfl, hL, hg⟩; have HL := Lib.hid hL; have HG := Lib.hid hg; clear hL hg)
    | (go_at_call 43; refine (hR.out _).mono ?_; rintro e w2 ⟨rfl, m2⟩; have HL2 := Lib.hid (HL.out.bl m2); have HG2 := Lib.hid (HG.out.trans (bl_grown m2 n)); clear m2))
  have HM := Lib.hid (must_any n t false true _ (HL2.out.bl ((Bl.refl w2).alloc (.cells #[.int .i64 a, .int .i64 b, .int .i64 c] 38))))
  have hz2 : w2.heap.size ≠ n := by have := HG2.out.size; simp at this; omega
  refine HM.out.mono ?_
  rintro e w3 ⟨rfl, hL3, hg3⟩
  obtain ⟨k0, k1, k2, _, _, _, hlt2⟩ := grown_new3 hg3 hz2
  have hg4 := (HG2.out.trans (bl_grown ((Bl.refl w2).alloc (.cells #[.int .i64 a, .int .i64 b, .int .i64 c] 38)) n)).trans hg3
  obtain ⟨q0, q1, q2, z0, z1, z2, hlt⟩ := grown_new3 hg4 hz
  have HL3 := Lib.hid hL3
  have HG4 := Lib.hid (alloc_grown hg4)
  clear hL3 hg3 hg4
  go_wp2
  obtain ⟨e0, e1, e2⟩ := stv3 (.int .i64 a) (.int .i64 b) (.int .i64 c) q0 q1 q2
  have s1 : (w3.setCell ⟨w.heap.size, 0, none⟩ (.int .i64 a)).cell? ⟨w.heap.size, 1, none⟩ = some (.int .i64 0) := by rw [World.cell?_setCell_other _ _ _ _ (by simp)]; exact q1
  have s2 : ((w3.setCell ⟨w.heap.size, 0, none⟩ (.int .i64 a)).setCell ⟨w.heap.size, 1, none⟩ (.int .i64 b)).cell? ⟨w.heap.size, 2, none⟩ = some (.int .i64 0) := by rw [World.cell?_setCell_other _ _ _ _ (by simp), World.cell?_setCell_other _ _ _ _ (by simp)]; exact q2
  refine bodyPost_ret (v := .agg #[.int .i64 a, .int .i64 b, .int .i64 c]) ?_ rfl ⟨rfl, ((HL3.out.int hz q0 _).int hz s1 _).int hz s2 _, grown_set_new (grown_set_new (grown_set_new HG4.out (Nat.le_refl _) _) (Nat.le_refl _) _) (Nat.le_refl _) _⟩
  simp [results, Tryd.results42, go_sem, e0, e1, e2]
end Go.Proofs.YtkllhockcnokeaaDoor

/- Take with the reader of levels, Fixed, Number, More on words that are right. -/
namespace Go.Proofs.YtkllhockcnokeaaDoor
open Go.RowKit Go.Sort Go.Lib

set_option maxHeartbeats 1600000 in
theorem takeLev_ok (n : Nat) (z : Int) (h0 : 0 ≤ z) (h1 : z ≤ 65535) (t : List (List UInt8)) (w : World) (h : LineV w n (lvShow z :: t) false) :
    Calls Tryd.prog 34 #[.pointer (some ⟨n, 0, none⟩), .func (.func 37) #[] #[]] w fun e w' => e = .returned (.int .i64 z) ∧ LineV w' n t false ∧ w.grownBy w' (some n) := by
  have HN := Lib.hid (next_ok n (lvShow z) t w h)
  have HR := Lib.hid (fun w => by
    have := read_any (bs (lvShow z)) w (by rw [bs_size]; have := lvShow_l10 h0 h1; omega)
    have hl := level_show z h0 h1
    rw [lr_of (bs (lvShow z)) z true (by rw [bs_list]; exact hl.2) (by rw [bs_list]; exact hl.1)] at this
    exact this)
  have HM := Lib.hid (fun w' (h' : LineV w' n t false) => must_any n t false true w' h')
  clear h
  generalize bs (lvShow z) = S at *
  go_enter Tryd.func34, Tryd.ntmps34
  go_wp2_with (first
    | (go_at_call 51; refine HN.out.mono ?_; rintro e w1 ⟨rfl, l1, g1⟩; have L1 := Lib.hid l1; clear l1)
    | (go_at_call 37; refine (HR.out _).mono ?_; rintro e w2 ⟨rfl, m2'⟩; have m2 := Lib.hid m2'.bl; clear m2')
    | (go_at_call 52; refine (HM.out _ (L1.out.bl m2.out)).mono ?_; rintro e w3 ⟨rfl, l3, g3⟩; have L3 := Lib.hid l3; clear l3))
  go_ret
  exact ⟨rfl, L3.out, (g1.trans (bl_grown m2.out n)).trans g3⟩
theorem fixed_w (n : Nat) (l : List UInt8) (t : List (List UInt8)) (w : World) (h : LineV w n (l :: t) false) :
    Calls Tryd.prog 36 #[.pointer (some ⟨n, 0, none⟩), .string (bs l)] w fun e w' => e = .returned (.tuple #[]) ∧ LineV w' n t false ∧ w.grownBy w' (some n) := by
  have := fixed_any n (l :: t) false (bs l) w h
  have e : (nxX (l :: t) false || !(nxW (l :: t) false == (bs l).data.toList)) = false := by
    rw [bs_list]; show (false || !(l == l)) = false; simp
  rw [e] at this
  exact this
theorem number_w (n : Nat) (z : Int) (h0 : 0 ≤ z) (h1 : z ≤ 9999999) (t : List (List UInt8)) (w : World) (h : LineV w n (Lib.itoa z :: t) false) :
    Calls Tryd.prog 38 #[.pointer (some ⟨n, 0, none⟩)] w fun e w' => e = .returned (.int .i64 z) ∧ LineV w' n t false ∧ w.grownBy w' (some n) := by
  obtain ⟨d1, d2⟩ := dd_val9 (n := z) h0 (by omega)
  have := number_ok n (Lib.itoa z) t w h (by have := itoa_l8 (n := z) (by omega) h1; omega) (by rw [itoa_pos h0]; exact d1)
  rw [show val (Lib.itoa z) = z by rw [itoa_pos h0]; exact d2] at this
  exact this
set_option maxHeartbeats 800000 in
theorem more_ok (n : Nat) (ws : List (List UInt8)) (w : World) (h : LineV w n ws false) :
    Calls Tryd.prog 41 #[.pointer (some ⟨n, 0, none⟩)] w fun e w' => e = .returned (.bool (decide (0 < ws.length))) ∧ w = w' := by
  obtain ⟨h1, h2, h3, v, h4, o, cap, rfl, h5, h6, h7⟩ := h
  generalize ws.length = m at *
  clear h7
  go_enter Tryd.func41, Tryd.ntmps41
  go_wp2
  go_ret
  exact ⟨rfl, rfl⟩
end Go.Proofs.YtkllhockcnokeaaDoor

/- Rows of structs that a call makes: what lies in each struct, said index by index. -/
namespace Go.Proofs.YtkllhockcnokeaaDoor
open Go.RowKit

/-- v is a row of the call's own, of n structs of c cells; the i-th of them holds the cells cel i. -/
def RowG (base : Nat) (w : World) (T : TypeId) (c : Nat) (v : Value) (n : Nat) (cel : Nat → List Value) : Prop :=
  ∃ xs, w.ownsRow base T c v n xs ∧ ∀ i, i < n → ∀ j u, (cel i)[j]? = some u → xs[i * c + j]? = some u
section
variable {base : Nat} {w w' : World} {T : TypeId} {c : Nat} {v : Value} {n : Nat} {cel : Nat → List Value}
theorem RowG.nil (base : Nat) (w : World) (T : TypeId) (c : Nat) (cel : Nat → List Value) : RowG base w T c (.slice none 0 0) 0 cel := ⟨[], World.ownsRow_nil _ _ _ _, fun _ h => absurd h (Nat.not_lt_zero _)⟩
theorem RowG.lt (h : RowG base w T c v n cel) : ∀ k, v.ownBlock = some k → base ≤ k ∧ k < w.heap.size := by
  obtain ⟨xs, h1, _⟩ := h
  exact World.ownsRow.lt h1
theorem RowG.kept {row : Option Nat} (h : RowG base w T c v n cel) (hg : w.grownBy w' row) (hne : ∀ k, v.ownBlock = some k → some k ≠ row) : RowG base w' T c v n cel := by
  obtain ⟨xs, h1, h2⟩ := h
  refine ⟨xs, World.ownsRow.kept h1 hg ?_, h2⟩
  cases hv : v.ownBlock with
  | none => exact .inl rfl
  | some k => exact .inr (hne k hv)
theorem RowG.bl (h : RowG base w T c v n cel) (g : Bl w w') : RowG base w' T c v n cel := h.kept (row := none) ⟨g.os, g.tape, g.output, g.size, fun k hk _ => g.block k hk⟩ (fun k _ => by simp)
/-- The value is a slice of n; where it has elements, it lies at the head of a block. -/
theorem RowG.form (h : RowG base w T c v n cel) : ∃ ao cap, v = .slice ao n cap ∧ n ≤ cap ∧ cap ≤ maxLen ∧ (0 < n → ∃ g, ao = some ⟨g, 0, none⟩) := by
  obtain ⟨xs, ⟨_, h1⟩, _⟩ := h
  rcases h1 with ⟨rfl, rfl⟩ | ⟨g, cap, cur, rfl, _, _, h3, h4, _⟩
  · exact ⟨none, 0, rfl, Nat.le_refl _, Nat.zero_le _, fun hp => absurd hp (Nat.lt_irrefl _)⟩
  · exact ⟨_, cap, rfl, h3, h4, fun _ => ⟨g, rfl⟩⟩
variable {g cap : Nat}
theorem RowG.cell (h : RowG base w T c (.slice (some ⟨g, 0, none⟩) n cap) n cel) {i j : Nat} {u : Value} (hi : i < n) (hj : (cel i)[j]? = some u) : w.cell? ⟨g, i * c + j, none⟩ = some u := by
  obtain ⟨xs, h1, h2⟩ := h
  have e := World.ownsRow.cells h1 (g := g) rfl (i * c + j) u (h2 i hi j u hj)
  rw [Go.WideShapes.add_plain, Nat.zero_add] at e
  exact e
theorem RowG.frozen (h : RowG base w T c (.slice (some ⟨g, 0, none⟩) n cap) n cel) (j : Nat) : w.frozen? ⟨g, j, none⟩ = false := by
  obtain ⟨xs, h1, _⟩ := h
  exact World.ownsRow.frozenAt h1 j
theorem row_ix {c i i' j j' : Nat} (hj : j < c) (hj' : j' < c) (h : i * c + j = i' * c + j') : i = i' ∧ j = j' := by
  have hc : 0 < c := by omega
  have e1 : (i * c + j) / c = i := by rw [Nat.mul_comm, Nat.mul_add_div hc, Nat.div_eq_of_lt hj, Nat.add_zero]
  have e2 : (i' * c + j') / c = i' := by rw [Nat.mul_comm, Nat.mul_add_div hc, Nat.div_eq_of_lt hj', Nat.add_zero]
  have e3 : i = i' := by rw [← e1, ← e2, h]
  subst e3
  exact ⟨rfl, by omega⟩
/-- One cell of one struct is set. -/
theorem RowG.stored (h : RowG base w T c (.slice (some ⟨g, 0, none⟩) n cap) n cel) {i j : Nat} (hi : i < n) (hj : j < c) (u : Value) {cel' : Nat → List Value} (hl : ∀ i, (cel' i).length ≤ c)
    (ho : ∀ k, k ≠ i → cel' k = cel k) (hc : ∀ k, k ≠ j → (cel' i)[k]? = (cel i)[k]?) (hu : (cel' i)[j]? = some u) :
    RowG base (w.setCell ⟨g, i * c + j, none⟩ u) T c (.slice (some ⟨g, 0, none⟩) n cap) n cel' ∧ w.grownBy (w.setCell ⟨g, i * c + j, none⟩ u) (some g) := by
  obtain ⟨xs, h1, h2⟩ := h
  obtain ⟨h3, h4⟩ := World.ownsRow.stored h1 (i * c + j) u
  refine ⟨⟨_, h3, fun i' hi' j' u' hu' => ?_⟩, h4⟩
  have hj' : j' < c := Nat.lt_of_lt_of_le (List.getElem?_eq_some_iff.1 hu').1 (hl i')
  by_cases hx : i' = i
  · subst hx
    by_cases hy : j' = j
    · subst hy
      rw [hu] at hu'
      cases hu'
      rw [List.getElem?_set_self]
      rw [h1.1]
      have : i' * c + c ≤ n * c := by rw [← Nat.succ_mul]; exact Nat.mul_le_mul_right _ hi'
      omega
    · rw [List.getElem?_set_ne (fun e => hy (row_ix hj hj' e).2.symm)]
      rw [hc j' hy] at hu'
      exact h2 i' hi' j' u' hu'
  · rw [List.getElem?_set_ne (fun e => hx (row_ix hj hj' e).1.symm)]
    rw [ho i' hx] at hu'
    exact h2 i' hi' j' u' hu'
/-- One struct is appended. -/
theorem RowG.snoc {xs news : List Value} {v' : Value} (h1 : w'.ownsRow base T c v' (n + 1) (xs ++ news)) (hx : xs.length = n * c) (h2 : ∀ i, i < n → ∀ j u, (cel i)[j]? = some u → xs[i * c + j]? = some u)
    {cel' : Nat → List Value} (ho : ∀ k, k < n → cel' k = cel k) (hn : cel' n = news) : RowG base w' T c v' (n + 1) cel' := by
  refine ⟨_, h1, fun i hi j u hu => ?_⟩
  by_cases hlt : i < n
  · rw [ho i hlt] at hu
    have := h2 i hlt j u hu
    rw [List.getElem?_append_left (List.getElem?_eq_some_iff.1 this).1]
    exact this
  · obtain rfl : i = n := by omega
    rw [hn] at hu
    rw [List.getElem?_append_right (by rw [hx]; omega), hx, Nat.add_sub_cancel_left]
    exact hu
end
/-- Where a row reads on, what is appended, and where it lies. -/
theorem wpList_append_rowG {P : Program} {ops : Array Oper} {rest : List Oper} {o : Oper} {a : Act} {Q : Exit → Act → World → Prop} (hgd : o.guard = none) (s x : Operand) (t : TypeId)
    (ho : o.op = .call { callee := .builtin .append, args := #[s, x], argTypes := #[t, t] })
    (base : Nat) (e : TypeId) (i : TypeInfo) (z : Value) (size bytes : Nat) (ht : P.underlying t = some (.slice e)) (hi : P.info? e = some i) (hz : i.zero = some z)
    (hsize : i.size = size) (hby : i.bytes = bytes) (hzs : z.cells.size = size) (hsz : 0 < size)
    (w : World) (v : Value) (n : Nat) (cel cel' : Nat → List Value) (hs : a.eval s = v) (hown : RowG base w e size v n cel) (news : Array Value) (hl : news.toList.length = size)
    (hx : a.eval x = .slice (some ⟨w.heap.size, 0, none⟩) 1 1) (hnews : ∀ j u, news.toList[j]? = some u → (w.alloc (.cells news e)).cell? ((⟨w.heap.size, 0, none⟩ : Addr).add j) = some u) (h1 : ∀ u ∈ news.toList, u.oneCell' = true)
    (hc : ∀ k, k < n → cel' k = cel k) (hcn : cel' n = news.toList)
    (h63 : n ≤ 1000000) (hb1 : bytes ≤ 1000) (hbase : base ≤ w.heap.size)
    (h : ∀ v' w', RowG base w' e size v' (n + 1) cel' → w.grownBy w' v.ownBlock → (v'.ownBlock = v.ownBlock ∨ v'.ownBlock = some (w.heap.size + 1)) → w.heap.size < w'.heap.size → wpList P ops Q rest (a.put o.dst v') w') :
    wpList P ops Q (o :: rest) a (w.alloc (.cells news e)) := by
  obtain ⟨xs, k1, k2⟩ := hown
  have hbb : (n + 1) * bytes ≤ 140737488355328 := Nat.le_trans (Nat.mul_le_mul (show n + 1 ≤ 1000001 by omega) hb1) (by decide)
  refine wpList_append_own_at _ hgd s x t ho base e i z size bytes ht hi hz hsize hby hzs hsz v n xs hs (World.ownsRow.alloc k1 _) ⟨w.heap.size, 0, none⟩ 1 1 news.toList hx (by rw [hl, Nat.one_mul]) hnews h1 (by unfold maxLen; omega) hbb (by simp; omega) ?_
  intro v' w' h2 h3 _ h5
  refine h v' w' (RowG.snoc h2 k1.1 k2 hc hcn) ?_ ?_ ?_
  · exact ⟨h3.os, h3.tape, h3.output, Nat.le_trans (by simp) h3.size, fun k hk hne => (h3.block k (by simp; omega) hne).trans (heap_alloc_old w _ hk)⟩
  · simpa using h5
  · have := h3.size; simp at this; omega
/-- The same in a region that draws its order. -/
theorem step_append_rowG {P : Program} {ops : Array Oper} {o : Oper} {a : Act} {K : Act → World → Prop} {Q : Exit → Act → World → Prop} {E : Prop} (hgd : o.guard = none) (s x : Operand) (t : TypeId)
    (ho : o.op = .call { callee := .builtin .append, args := #[s, x], argTypes := #[t, t] })
    (base : Nat) (e : TypeId) (i : TypeInfo) (z : Value) (size bytes : Nat) (ht : P.underlying t = some (.slice e)) (hi : P.info? e = some i) (hz : i.zero = some z)
    (hsize : i.size = size) (hby : i.bytes = bytes) (hzs : z.cells.size = size) (hsz : 0 < size)
    (w : World) (v : Value) (n : Nat) (cel cel' : Nat → List Value) (hs : a.eval s = v) (hown : RowG base w e size v n cel) (q : Nat) (news : List Value) (hl : news.length = size)
    (hx : a.eval x = .slice (some ⟨q, 0, none⟩) 1 1) (hnews : ∀ j u, news[j]? = some u → w.cell? ((⟨q, 0, none⟩ : Addr).add j) = some u) (h1 : ∀ u ∈ news, u.oneCell' = true)
    (hc : ∀ k, k < n → cel' k = cel k) (hcn : cel' n = news) (h63 : n ≤ 1000000) (hb1 : bytes ≤ 1000) (hbase : base ≤ w.heap.size)
    (h : ∀ v' w', RowG base w' e size v' (n + 1) cel' → w.grownBy w' v.ownBlock → (v'.ownBlock = v.ownBlock ∨ v'.ownBlock = some w.heap.size) → K (a.put o.dst v') w') :
    if Region.wanted o (yielded ops a.tmps) = true then Oper.wp P o a w K Q else E := by
  obtain ⟨xs, k1, k2⟩ := hown
  have hbb : (n + 1) * bytes ≤ 140737488355328 := Nat.le_trans (Nat.mul_le_mul (show n + 1 ≤ 1000001 by omega) hb1) (by decide)
  refine step_append_lies _ hgd s x t ho base e i z size bytes ht hi hz hsize hby hzs hsz v n xs hs k1 ⟨q, 0, none⟩ 1 1 news hx (by rw [hl, Nat.one_mul]) hnews h1 (by omega) (by unfold maxLen; omega) hbb hbase _ rfl ?_
  intro g cap w' h2 h3 h4 _
  refine h _ w' (RowG.snoc h2 k1.1 k2 hc hcn) h3 ?_
  rcases h4 with h4 | h4
  · exact .inl h4.symm
  · exact .inr (by rw [h4]; rfl)
end Go.Proofs.YtkllhockcnokeaaDoor

/- The state of parse: the effect that is being filled, what is to be given back, the line. -/
namespace Go.Proofs.YtkllhockcnokeaaDoor
open Go.RowKit Go.Sort Go.Lib

theorem LineV.oth {w : World} {n N i : Nat} {ws : List (List UInt8)} {x : Bool} (h : LineV w n ws x) (hN : N ≠ n) {z : Value} (hc : w.cell? ⟨N, i, none⟩ = some z) (hz : ∀ s, z ≠ .string s) (u : Value) : LineV (w.setCell ⟨N, i, none⟩ u) n ws x := by
  obtain ⟨h1, h2, h3, v, h4, o, cap, h5, h6, h7, h8⟩ := h
  have e : ∀ j, (w.setCell ⟨N, i, none⟩ u).cell? ⟨n, j, none⟩ = w.cell? ⟨n, j, none⟩ := fun j => World.cell?_setCell_other _ _ _ _ (by intro he; injection he with h1 h2; exact hN h1)
  refine ⟨by rw [e]; exact h1, by rw [World.frozen?_setCell]; exact h2, by rw [World.frozen?_setCell]; exact h3, v, by rw [e]; exact h4, o, cap, h5, h6, h7, fun hp => ?_⟩
  obtain ⟨b, off, g1, g2, g3⟩ := h8 hp
  refine ⟨b, off, g1, g2, fun k hk => ?_⟩
  have hw := g3 k hk
  rw [World.cell?_setCell_other _ _ _ _ ?_]
  · exact hw
  · intro he
    injection he with h1 h2
    subst h1 h2
    rw [hc] at hw
    injection hw with hw
    exact hz _ hw
def ef0 : Eff := ⟨0, 0, 0, 0, 0, 0, false, false, []⟩
/-- N: the effect that is being filled; R: what is to be given back; n: the line. -/
structure PE (w0 w : World) (R N n : Nat) (ws : List (List UInt8)) (c : Eff) (v : Value) : Prop where
  cel : EffAt w N c v
  fz : ∀ i, w.frozen? ⟨N, i, none⟩ = false
  res : EffAt w R ef0 (.slice none 0 0)
  rz : ∀ i, w.frozen? ⟨R, i, none⟩ = false
  line : LineV w n ws false
  bl : Bl w0 w
  nN : N ≠ n
  nR : R ≠ n
  nRN : R ≠ N
  hR : w0.heap.size ≤ R
  hN : w0.heap.size ≤ N
  hn : w0.heap.size ≤ n
theorem EffAt.grown {w w' : World} {b n : Nat} {e : Eff} {v : Value} (h : EffAt w b e v) (g : w.grownBy w' (some n)) (hb : b ≠ n) : EffAt w' b e v :=
  ⟨grown_cell g hb h.1, grown_cell g hb h.2.1, grown_cell g hb h.2.2.1, grown_cell g hb h.2.2.2.1, grown_cell g hb h.2.2.2.2.1, grown_cell g hb h.2.2.2.2.2.1, grown_cell g hb h.2.2.2.2.2.2.1, grown_cell g hb h.2.2.2.2.2.2.2.1, grown_cell g hb h.2.2.2.2.2.2.2.2⟩
theorem EffAt.lt {w : World} {b : Nat} {e : Eff} {v : Value} (h : EffAt w b e v) : b < w.heap.size := World.block_lt_of_cell? _ _ h.1
theorem EffAt.far {w : World} {b N i : Nat} {e : Eff} {v : Value} (h : EffAt w b e v) (hb : b ≠ N) (u : Value) : EffAt (w.setCell ⟨N, i, none⟩ u) b e v := by
  have o : ∀ j, (w.setCell ⟨N, i, none⟩ u).cell? ⟨b, j, none⟩ = w.cell? ⟨b, j, none⟩ := fun j => World.cell?_setCell_other _ _ _ _ (by intro he; injection he with h1 _; exact hb h1.symm)
  exact ⟨(o 0).trans h.1, (o 1).trans h.2.1, (o 2).trans h.2.2.1, (o 3).trans h.2.2.2.1, (o 4).trans h.2.2.2.2.1, (o 5).trans h.2.2.2.2.2.1, (o 6).trans h.2.2.2.2.2.2.1, (o 7).trans h.2.2.2.2.2.2.2.1, (o 8).trans h.2.2.2.2.2.2.2.2⟩
section
variable {w0 w w' : World} {R N n : Nat} {ws ws' : List (List UInt8)} {c : Eff} {v : Value}
theorem PE.lt (h : PE w0 w R N n ws c v) : n < w.heap.size := World.block_lt_of_cell? _ _ h.line.1
theorem PE.call (h : PE w0 w R N n ws c v) (l : LineV w' n ws' false) (g : w.grownBy w' (some n)) : PE w0 w' R N n ws' c v :=
  ⟨h.cel.grown g h.nN, fun i => (grown_frozen g h.nN h.cel.lt).trans (h.fz i), h.res.grown g h.nR, fun i => (grown_frozen g h.nR h.res.lt).trans (h.rz i), l, grown_bl h.bl g h.hn, h.nN, h.nR, h.nRN, h.hR, h.hN, h.hn⟩
theorem PE.ext (h : PE w0 w R N n ws c v) (g : Bl w w') : PE w0 w' R N n ws c v :=
  h.call (h.line.bl g) (bl_grown g n)
theorem PE.upd (h : PE w0 w R N n ws c v) {i : Nat} {z : Value} (hc : w.cell? ⟨N, i, none⟩ = some z) (hz : ∀ s, z ≠ .string s) (u : Value) {c' : Eff} {v' : Value} (he : EffAt (w.setCell ⟨N, i, none⟩ u) N c' v') : PE w0 (w.setCell ⟨N, i, none⟩ u) R N n ws c' v' :=
  ⟨he, fun j => by rw [World.frozen?_setCell]; exact h.fz j, h.res.far h.nRN u, fun j => by rw [World.frozen?_setCell]; exact h.rz j, h.line.oth h.nN hc hz u, h.bl.setCell (p := ⟨N, i, none⟩) h.hN u, h.nN, h.nR, h.nRN, h.hR, h.hN, h.hn⟩
theorem PE.row {row : Option Nat} (h : PE w0 w R N n ws c v) (g : w.grownBy w' row) (hr : ∀ k, row = some k → N < k ∧ R < k ∧ n < k) : PE w0 w' R N n ws c v := by
  have hc : ∀ {b i : Nat} {u : Value}, (∀ k, row = some k → b < k) → w.cell? ⟨b, i, none⟩ = some u → w'.cell? ⟨b, i, none⟩ = some u := fun {b i u} hb hu => by
    rw [World.cell?_of_block (g.block b (World.block_lt_of_cell? _ _ hu) (fun e => absurd (hb _ e.symm) (Nat.lt_irrefl _)))]; exact hu
  have hf : ∀ {b i : Nat}, (∀ k, row = some k → b < k) → b < w.heap.size → w'.frozen? ⟨b, i, none⟩ = w.frozen? ⟨b, i, none⟩ := fun {b i} hb hlt => by
    unfold World.frozen?
    rw [g.block b hlt (fun e => absurd (hb _ e.symm) (Nat.lt_irrefl _))]
  have nN : ∀ k, row = some k → N < k := fun k hk => (hr k hk).1
  have nR : ∀ k, row = some k → R < k := fun k hk => (hr k hk).2.1
  have nn : ∀ k, row = some k → n < k := fun k hk => (hr k hk).2.2
  have at' : ∀ {b : Nat} {e : Eff} {u : Value}, (∀ k, row = some k → b < k) → EffAt w b e u → EffAt w' b e u := fun hb he =>
    ⟨hc hb he.1, hc hb he.2.1, hc hb he.2.2.1, hc hb he.2.2.2.1, hc hb he.2.2.2.2.1, hc hb he.2.2.2.2.2.1, hc hb he.2.2.2.2.2.2.1, hc hb he.2.2.2.2.2.2.2.1, hc hb he.2.2.2.2.2.2.2.2⟩
  have hl : LineV w' n ws false := by
    obtain ⟨a1, a2, a3, u, a4, o, cap, a5, a6, a7, a8⟩ := h.line
    refine ⟨hc nn a1, (hf nn h.lt).trans a2, (hf nn h.lt).trans a3, u, hc nn a4, o, cap, a5, a6, a7, fun hp => ?_⟩
    obtain ⟨b, off, b1, b2, b3⟩ := a8 hp
    exact ⟨b, off, b1, b2, fun i hi => hc (fun k hk => Nat.lt_trans b2 (nn k hk)) (b3 i hi)⟩
  exact ⟨at' nN h.cel, fun i => (hf nN h.cel.lt).trans (h.fz i), at' nR h.res, fun i => (hf nR h.res.lt).trans (h.rz i), hl, h.bl.grown g (fun k hk => by have := nN k hk; have := h.hN; omega), h.nN, h.nR, h.nRN, h.hR, h.hN, h.hn⟩
theorem PE.set1 (h : PE w0 w R N n ws c v) (z : Int) : PE w0 (w.setCell ⟨N, 1, none⟩ (.int .i64 z)) R N n ws { c with lo := z } v := by
  have o : ∀ j, j ≠ 1 → (w.setCell ⟨N, 1, none⟩ (.int .i64 z)).cell? ⟨N, j, none⟩ = w.cell? ⟨N, j, none⟩ := fun j hj => World.cell?_setCell_other _ _ _ _ (by intro he; injection he with _ h2; exact hj h2.symm)
  exact h.upd (h.cel.2.1) (fun s => by simp) _ ⟨(o 0 (by decide)).trans (h.cel.1), World.cell?_setCell_same _ _ _ (h.cel.2.1), (o 2 (by decide)).trans (h.cel.2.2.1), (o 3 (by decide)).trans (h.cel.2.2.2.1), (o 4 (by decide)).trans (h.cel.2.2.2.2.1), (o 5 (by decide)).trans (h.cel.2.2.2.2.2.1), (o 6 (by decide)).trans (h.cel.2.2.2.2.2.2.1), (o 7 (by decide)).trans (h.cel.2.2.2.2.2.2.2.1), (o 8 (by decide)).trans (h.cel.2.2.2.2.2.2.2.2)⟩
theorem PE.set2 (h : PE w0 w R N n ws c v) (z : Int) : PE w0 (w.setCell ⟨N, 2, none⟩ (.int .i64 z)) R N n ws { c with hi := z } v := by
  have o : ∀ j, j ≠ 2 → (w.setCell ⟨N, 2, none⟩ (.int .i64 z)).cell? ⟨N, j, none⟩ = w.cell? ⟨N, j, none⟩ := fun j hj => World.cell?_setCell_other _ _ _ _ (by intro he; injection he with _ h2; exact hj h2.symm)
  exact h.upd (h.cel.2.2.1) (fun s => by simp) _ ⟨(o 0 (by decide)).trans (h.cel.1), (o 1 (by decide)).trans (h.cel.2.1), World.cell?_setCell_same _ _ _ (h.cel.2.2.1), (o 3 (by decide)).trans (h.cel.2.2.2.1), (o 4 (by decide)).trans (h.cel.2.2.2.2.1), (o 5 (by decide)).trans (h.cel.2.2.2.2.2.1), (o 6 (by decide)).trans (h.cel.2.2.2.2.2.2.1), (o 7 (by decide)).trans (h.cel.2.2.2.2.2.2.2.1), (o 8 (by decide)).trans (h.cel.2.2.2.2.2.2.2.2)⟩
theorem PE.set3 (h : PE w0 w R N n ws c v) (z : Int) : PE w0 (w.setCell ⟨N, 3, none⟩ (.int .i64 z)) R N n ws { c with cyc := z } v := by
  have o : ∀ j, j ≠ 3 → (w.setCell ⟨N, 3, none⟩ (.int .i64 z)).cell? ⟨N, j, none⟩ = w.cell? ⟨N, j, none⟩ := fun j hj => World.cell?_setCell_other _ _ _ _ (by intro he; injection he with _ h2; exact hj h2.symm)
  exact h.upd (h.cel.2.2.2.1) (fun s => by simp) _ ⟨(o 0 (by decide)).trans (h.cel.1), (o 1 (by decide)).trans (h.cel.2.1), (o 2 (by decide)).trans (h.cel.2.2.1), World.cell?_setCell_same _ _ _ (h.cel.2.2.2.1), (o 4 (by decide)).trans (h.cel.2.2.2.2.1), (o 5 (by decide)).trans (h.cel.2.2.2.2.2.1), (o 6 (by decide)).trans (h.cel.2.2.2.2.2.2.1), (o 7 (by decide)).trans (h.cel.2.2.2.2.2.2.2.1), (o 8 (by decide)).trans (h.cel.2.2.2.2.2.2.2.2)⟩
theorem PE.set4 (h : PE w0 w R N n ws c v) (z : Int) : PE w0 (w.setCell ⟨N, 4, none⟩ (.int .i64 z)) R N n ws { c with wid := z } v := by
  have o : ∀ j, j ≠ 4 → (w.setCell ⟨N, 4, none⟩ (.int .i64 z)).cell? ⟨N, j, none⟩ = w.cell? ⟨N, j, none⟩ := fun j hj => World.cell?_setCell_other _ _ _ _ (by intro he; injection he with _ h2; exact hj h2.symm)
  exact h.upd (h.cel.2.2.2.2.1) (fun s => by simp) _ ⟨(o 0 (by decide)).trans (h.cel.1), (o 1 (by decide)).trans (h.cel.2.1), (o 2 (by decide)).trans (h.cel.2.2.1), (o 3 (by decide)).trans (h.cel.2.2.2.1), World.cell?_setCell_same _ _ _ (h.cel.2.2.2.2.1), (o 5 (by decide)).trans (h.cel.2.2.2.2.2.1), (o 6 (by decide)).trans (h.cel.2.2.2.2.2.2.1), (o 7 (by decide)).trans (h.cel.2.2.2.2.2.2.2.1), (o 8 (by decide)).trans (h.cel.2.2.2.2.2.2.2.2)⟩
theorem PE.set5 (h : PE w0 w R N n ws c v) (z : Int) : PE w0 (w.setCell ⟨N, 5, none⟩ (.int .i64 z)) R N n ws { c with spr := z } v := by
  have o : ∀ j, j ≠ 5 → (w.setCell ⟨N, 5, none⟩ (.int .i64 z)).cell? ⟨N, j, none⟩ = w.cell? ⟨N, j, none⟩ := fun j hj => World.cell?_setCell_other _ _ _ _ (by intro he; injection he with _ h2; exact hj h2.symm)
  exact h.upd (h.cel.2.2.2.2.2.1) (fun s => by simp) _ ⟨(o 0 (by decide)).trans (h.cel.1), (o 1 (by decide)).trans (h.cel.2.1), (o 2 (by decide)).trans (h.cel.2.2.1), (o 3 (by decide)).trans (h.cel.2.2.2.1), (o 4 (by decide)).trans (h.cel.2.2.2.2.1), World.cell?_setCell_same _ _ _ (h.cel.2.2.2.2.2.1), (o 6 (by decide)).trans (h.cel.2.2.2.2.2.2.1), (o 7 (by decide)).trans (h.cel.2.2.2.2.2.2.2.1), (o 8 (by decide)).trans (h.cel.2.2.2.2.2.2.2.2)⟩
theorem PE.set6 (h : PE w0 w R N n ws c v) (z : Bool) : PE w0 (w.setCell ⟨N, 6, none⟩ (.bool z)) R N n ws { c with bk := z } v := by
  have o : ∀ j, j ≠ 6 → (w.setCell ⟨N, 6, none⟩ (.bool z)).cell? ⟨N, j, none⟩ = w.cell? ⟨N, j, none⟩ := fun j hj => World.cell?_setCell_other _ _ _ _ (by intro he; injection he with _ h2; exact hj h2.symm)
  exact h.upd (h.cel.2.2.2.2.2.2.1) (fun s => by simp) _ ⟨(o 0 (by decide)).trans (h.cel.1), (o 1 (by decide)).trans (h.cel.2.1), (o 2 (by decide)).trans (h.cel.2.2.1), (o 3 (by decide)).trans (h.cel.2.2.2.1), (o 4 (by decide)).trans (h.cel.2.2.2.2.1), (o 5 (by decide)).trans (h.cel.2.2.2.2.2.1), World.cell?_setCell_same _ _ _ (h.cel.2.2.2.2.2.2.1), (o 7 (by decide)).trans (h.cel.2.2.2.2.2.2.2.1), (o 8 (by decide)).trans (h.cel.2.2.2.2.2.2.2.2)⟩
theorem PE.set7 (h : PE w0 w R N n ws c v) (z : Bool) : PE w0 (w.setCell ⟨N, 7, none⟩ (.bool z)) R N n ws { c with rl := z } v := by
  have o : ∀ j, j ≠ 7 → (w.setCell ⟨N, 7, none⟩ (.bool z)).cell? ⟨N, j, none⟩ = w.cell? ⟨N, j, none⟩ := fun j hj => World.cell?_setCell_other _ _ _ _ (by intro he; injection he with _ h2; exact hj h2.symm)
  exact h.upd (h.cel.2.2.2.2.2.2.2.1) (fun s => by simp) _ ⟨(o 0 (by decide)).trans (h.cel.1), (o 1 (by decide)).trans (h.cel.2.1), (o 2 (by decide)).trans (h.cel.2.2.1), (o 3 (by decide)).trans (h.cel.2.2.2.1), (o 4 (by decide)).trans (h.cel.2.2.2.2.1), (o 5 (by decide)).trans (h.cel.2.2.2.2.2.1), (o 6 (by decide)).trans (h.cel.2.2.2.2.2.2.1), World.cell?_setCell_same _ _ _ (h.cel.2.2.2.2.2.2.2.1), (o 8 (by decide)).trans (h.cel.2.2.2.2.2.2.2.2)⟩
theorem PE.set8 (h : PE w0 w R N n ws c v) (hv : ∀ s, v ≠ .string s) (u : Value) (L : List Stp) : PE w0 (w.setCell ⟨N, 8, none⟩ u) R N n ws { c with st := L } u := by
  have o : ∀ j, j ≠ 8 → (w.setCell ⟨N, 8, none⟩ u).cell? ⟨N, j, none⟩ = w.cell? ⟨N, j, none⟩ := fun j hj => World.cell?_setCell_other _ _ _ _ (by intro he; injection he with _ h2; exact hj h2.symm)
  exact h.upd (h.cel.2.2.2.2.2.2.2.2) hv _ ⟨(o 0 (by decide)).trans (h.cel.1), (o 1 (by decide)).trans (h.cel.2.1), (o 2 (by decide)).trans (h.cel.2.2.1), (o 3 (by decide)).trans (h.cel.2.2.2.1), (o 4 (by decide)).trans (h.cel.2.2.2.2.1), (o 5 (by decide)).trans (h.cel.2.2.2.2.2.1), (o 6 (by decide)).trans (h.cel.2.2.2.2.2.2.1), (o 7 (by decide)).trans (h.cel.2.2.2.2.2.2.2.1), World.cell?_setCell_same _ _ _ (h.cel.2.2.2.2.2.2.2.2)⟩
end
/-- The cells of steps, one by one. -/
def sCel (L : List Stp) (i : Nat) : List Value := match L[i]? with
  | some e => [.int .i64 e.lv, .int .i64 e.ho, .int .i64 e.fa]
  | none => []
theorem sCel_at {L : List Stp} {i : Nat} (h : i < L.length) : sCel L i = [.int .i64 L[i].lv, .int .i64 L[i].ho, .int .i64 L[i].fa] := by
  unfold sCel; rw [List.getElem?_eq_getElem h]
theorem row_stp {base : Nat} {w : World} {v : Value} {L : List Stp} (h : RowG base w 38 3 v L.length (sCel L)) : StpVal w v L := by
  obtain ⟨ao, cap, rfl, h2, h3, h4⟩ := h.form
  refine ⟨ao, cap, rfl, ⟨h2, by unfold maxLen at h3; omega⟩, fun hp => ?_⟩
  obtain ⟨g, rfl⟩ := h4 hp
  refine ⟨g, 0, rfl, fun i hi => ?_⟩
  have hc := sCel_at hi
  rw [Nat.zero_add]
  exact ⟨h.cell (i := i) (j := 0) hi (by rw [hc]; rfl), h.cell (i := i) (j := 1) hi (by rw [hc]; rfl), h.cell (i := i) (j := 2) hi (by rw [hc]; rfl)⟩

/-! Which option is there. -/
theorem op_skip {a l : List UInt8} {t ws : List (List UInt8)} (h : a ≠ l) (hw : ws = a :: t) : opB ws false l = false ∧ opT ws false l = ws := by
  subst hw
  have : opB (a :: t) false l = false := by unfold opB; simpa using h
  exact ⟨this, by unfold opT; rw [this]; rfl⟩
theorem op_nil (l : List UInt8) : opB [] false l = false ∧ opT [] false l = [] := ⟨rfl, rfl⟩
theorem op_hit (l : List UInt8) (t : List (List UInt8)) : opB (l :: t) false l = true ∧ opT (l :: t) false l = t := by
  have : opB (l :: t) false l = true := by unfold opB; simp
  exact ⟨this, by unfold opT; rw [this]; rfl⟩
theorem stWd_ne (x : Stp) {l : List UInt8} (h : (58 : UInt8) ∉ l) : stWd x ≠ l := by
  intro e
  apply h
  rw [← e]
  unfold stWd
  simp
theorem op_steps (st : List Stp) {l : List UInt8} (h : (58 : UInt8) ∉ l) : opB (st.map stWd) false l = false ∧ opT (st.map stWd) false l = st.map stWd := by
  cases st with
  | nil => exact op_nil l
  | cons x t => exact op_skip (stWd_ne x h) rfl
theorem op_rel (e : Eff) : opB (eW5 e) false wRel = e.rl ∧ opT (eW5 e) false wRel = eW6 e := by
  unfold eW5 eW6
  cases e.rl with
  | true => exact op_hit _ _
  | false => exact op_steps e.st (by decide)
theorem op_no5 (e : Eff) {l : List UInt8} (h : (58 : UInt8) ∉ l) (hr : wRel ≠ l) : opB (eW5 e) false l = false ∧ opT (eW5 e) false l = eW5 e := by
  unfold eW5 eW6
  cases e.rl with
  | true => exact op_skip hr rfl
  | false => exact op_steps e.st h
theorem op_back (e : Eff) : opB (eW4 e) false wBack = e.bk ∧ opT (eW4 e) false wBack = eW5 e := by
  unfold eW4
  cases e.bk with
  | true => exact op_hit _ _
  | false => exact op_no5 e (by decide) (by decide)
theorem op_spr (e : Eff) : opB (eW3 e) false wSpread = (!decide (e.spr = 0)) ∧ opT (eW3 e) false wSpread = (if e.spr = 0 then eW4 e else Lib.itoa e.spr :: eW4 e) := by
  unfold eW3
  by_cases h : e.spr = 0
  · rw [if_pos h, if_pos h, decide_eq_true h]
    show opB (eW4 e) false wSpread = false ∧ opT (eW4 e) false wSpread = eW4 e
    unfold eW4
    cases e.bk with
    | true => exact op_skip (by decide) rfl
    | false => exact op_no5 e (by decide) (by decide)
  · rw [if_neg h, if_neg h, decide_eq_false h]
    exact op_hit _ _
end Go.Proofs.YtkllhockcnokeaaDoor

/- parse of the program, on the text of a right effect. -/
namespace Go.Proofs.YtkllhockcnokeaaDoor
open Go.RowKit Go.Sort Go.Lib

theorem infoSt : (Tryd.prog.info? 38).map (fun i => (i.zero, i.size, i.bytes)) = some (some (.agg #[.int .i64 0, .int .i64 0, .int .i64 0]), 3, 24) := by kernel_rfl
def nilS : Value := .slice none 0 0
/-- How long the rest of a line is. -/
def lenAt (w : World) (n : Nat) : Nat := match w.cell? ⟨n, 0, none⟩ with
  | some (.slice _ l _) => l
  | _ => 0
theorem LineV.len {w : World} {n : Nat} {ws : List (List UInt8)} {x : Bool} (h : LineV w n ws x) : lenAt w n = ws.length := by
  obtain ⟨_, _, _, v, h4, o, cap, rfl, _⟩ := h
  unfold lenAt; rw [h4]
def ParsePost (e : Eff) (w : World) (r : Ending) (w' : World) : Prop := ∃ v, r = .returned (.tuple #[effV e v, .bool true]) ∧ StpVal w' v e.st ∧ Bl w w' ∧ ∀ k, v.ownBlock = some k → w.heap.size ≤ k

set_option maxRecDepth 100000 in
set_option maxHeartbeats 25600000 in
theorem parse_ok (e : Eff) (w : World) (hk : ckE e = 0) (hm : MxAt w) (hf : FwAt w) :
    Calls Tryd.prog 28 #[.string (bs (efTxt e))] w (ParsePost e w) := by
  obtain ⟨⟨f1, f7⟩, ⟨l1, l2, l3⟩, ⟨w1', w2'⟩, ⟨s1, s2⟩, hcy, hw4, hst, hno⟩ := ckE_ok hk
  have hzz := efTxt_len hk
  have hl3 : e.lo ≤ 65535 := by omega
  have hl1 : 0 ≤ e.hi := by omega
  have HAll : Hid (∀ x ∈ e.st, stpOk x = true) := by
    show ∀ _, _
    intro x hx
    by_cases h7 : e.frm = 7
    · exact List.all_eq_true.1 (hst h7).2.2.2 x hx
    · rw [hno h7] at hx; cases hx
  have hl50 : e.st.length ≤ 50 := by
    by_cases h7 : e.frm = 7
    · exact (hst h7).2.2.1
    · rw [hno h7]; simp
  have HY1 : Hid (¬ e.frm = 7 → 0 ≤ e.cyc ∧ e.cyc ≤ 3600000) := by
    show _ → _
    intro h7; unfold cycE at hcy; rw [if_neg h7] at hcy; omega
  have HY2 : Hid (e.frm = 7 → e.cyc = 0) := fun h7 => (hst h7).1
  have HW4 := Lib.hid hw4
  clear hst hno hcy hk hw4
  obtain ⟨cy, hcy⟩ : ∃ cy, decide (e.frm = 7) = !cy := ⟨!decide (e.frm = 7), by simp⟩
  obtain ⟨wd, hwd⟩ : ∃ wd, decide (e.frm = 4) = wd := ⟨_, rfl⟩
  have Hcy := Lib.hid hcy
  have Hwd := Lib.hid hwd
  obtain ⟨g, hgg⟩ : ∃ g : Nat, e.frm = (g : Int) := ⟨e.frm.toNat, by omega⟩
  have HG := Lib.hid hgg
  rw [hgg] at hcy hwd
  have HCc := Lib.hid (fun (c : Eff) (hc : c.frm = g) v => hasCycle_is c v cy (by rw [hc]; exact hcy))
  have HWd := Lib.hid (fun (c : Eff) (hc : c.frm = g) v => hasWidth_is c v wd (by rw [hc]; exact hwd))
  have hg1 : 1 ≤ g := by omega
  have hg7 : g ≤ 7 := by omega
  clear hcy hwd hgg f1 f7
  obtain ⟨W0, hW0⟩ : ∃ W0, W0 = w.alloc (.cells #[.int .i64 0, .int .i64 0, .int .i64 0, .int .i64 0, .int .i64 0, .int .i64 0, .bool false, .bool false, .slice none 0 0] 24) := ⟨_, rfl⟩
  have b0 : Bl w W0 := by rw [hW0]; exact (Bl.refl w).alloc _
  have r0 : EffAt W0 w.heap.size ef0 (.slice none 0 0) := by rw [hW0]; exact EffAt.new w _ ef0 _
  have rz0 : ∀ i, W0.frozen? ⟨w.heap.size, i, none⟩ = false := fun i => by rw [hW0]; simp
  have R0 := Lib.hid r0
  have RZ0 := Lib.hid rz0
  have HS := Lib.hid (by
    have := split_line (bs (efTxt e)) W0 (by rw [bs_size]; omega) (hm.bl b0)
    rw [bs_list, split_eff, show e.frm.toNat = g by rw [HG.out]; rfl] at this
    exact this)
  have HFw := Lib.hid (fun w' (m : Bl w w') => hf.bl m)
  have B0 := Lib.hid b0
  clear hm hf hzz b0 r0 rz0
  generalize bs (efTxt e) = TX at *
  go_enter Tryd.func28, Tryd.ntmps28
  go_wp2_with fail
  rw [← hW0]
  clear hW0
  refine HS.out.mono ?_
  rintro r w1 ⟨n, rfl, hn, hl, hb⟩
  have L1 := Lib.hid hl
  have B1 := Lib.hid hb
  clear hl hb HS
  go_wp2_with fail
  refine (takeForm_ok n g hg1 hg7 (eW0 e) w1 L1.out (fun w' m => HFw.out w' (B0.out.trans (grown_bl B1.out m hn)))).mono ?_
  rintro r w2 ⟨rfl, hl, hg⟩
  have hR := R0.out.lt
  have hRn : w.heap.size ≠ n := by omega
  have hz2 : n < w2.heap.size := World.block_lt_of_cell? _ _ hl.1
  have hsz : W0.heap.size ≤ w2.heap.size := Nat.le_trans B1.out.size hg.size
  obtain ⟨W3, hW3⟩ : ∃ W3, W3 = w2.alloc (.cells #[.int .i64 (g : Int), .int .i64 0, .int .i64 0, .int .i64 0, .int .i64 0, .int .i64 0, .bool false, .bool false, .slice none 0 0] 24) := ⟨_, rfl⟩
  have b3 : Bl w2 W3 := by rw [hW3]; exact (Bl.refl w2).alloc _
  have g03 : W0.grownBy W3 (some n) := ((bl_grown B1.out n).trans hg).trans (bl_grown b3 n)
  have hP : PE w W3 w.heap.size w2.heap.size n (wFrom :: lvShow e.lo :: wTo :: lvShow e.hi :: eW1 e) { ef0 with frm := g } (.slice none 0 0) :=
    ⟨by rw [hW3]; exact EffAt.new w2 _ { ef0 with frm := g } _, fun i => by rw [hW3]; simp, R0.out.grown g03 hRn, fun i => (grown_frozen g03 hRn hR).trans (RZ0.out i), hl.bl b3, B0.out.trans (grown_bl (grown_bl B1.out hg hn) (bl_grown b3 n) (by omega)),
      by omega, hRn, by omega, Nat.le_refl _, by omega, by omega⟩
  have P := Lib.hid hP
  clear hl hg hP b3 g03 hRn hsz
  have H3 := Lib.hid hW3
  clear hW3
  go_wp2_with fail
  rw [← H3.out]
  clear H3
  refine (fixed_w n wFrom _ _ P.out.line).mono ?_
  rintro r wc ⟨rfl, l, g'⟩
  replace P := Lib.hid (P.out.call l g')
  clear l g'
  go_wp2_with fail
  refine (takeLev_ok n e.lo l1 hl3 _ _ P.out.line).mono ?_
  rintro r wc ⟨rfl, l, g'⟩
  replace P := Lib.hid (P.out.call l g')
  clear l g'
  have k := P.out.cel.2.1
  have z := P.out.fz 1
  have P' := Lib.hid (P.out.set1 e.lo)
  obtain ⟨Wn, hWn⟩ : ∃ Wn, wc.setCell ⟨w2.heap.size, 1, none⟩ (.int .i64 e.lo) = Wn := ⟨_, rfl⟩
  rw [hWn] at P'
  go_wp2_with fail
  (try rw [hWn])
  replace P := P'
  clear hWn k z
  refine (fixed_w n wTo _ _ P.out.line).mono ?_
  rintro r wc ⟨rfl, l, g'⟩
  replace P := Lib.hid (P.out.call l g')
  clear l g'
  go_wp2_with fail
  refine (takeLev_ok n e.hi hl1 l3 _ _ P.out.line).mono ?_
  rintro r wc ⟨rfl, l, g'⟩
  replace P := Lib.hid (P.out.call l g')
  clear l g'
  have k := P.out.cel.2.2.1
  have z := P.out.fz 2
  have P' := Lib.hid (P.out.set2 e.hi)
  obtain ⟨Wn, hWn⟩ : ∃ Wn, wc.setCell ⟨w2.heap.size, 2, none⟩ (.int .i64 e.hi) = Wn := ⟨_, rfl⟩
  rw [hWn] at P'
  go_upto_region 7 with fail
  (try rw [hWn])
  replace P := P'
  clear hWn k z
  have c0 : Wn.cell? ⟨w2.heap.size, 0, none⟩ = some (.int .i64 (g : Int)) := P.out.cel.1
  have c1 : Wn.cell? ⟨w2.heap.size, 1, none⟩ = some (.int .i64 e.lo) := P.out.cel.2.1
  have c2 : Wn.cell? ⟨w2.heap.size, 2, none⟩ = some (.int .i64 e.hi) := P.out.cel.2.2.1
  have c3 : Wn.cell? ⟨w2.heap.size, 3, none⟩ = some (.int .i64 0) := P.out.cel.2.2.2.1
  have c4 : Wn.cell? ⟨w2.heap.size, 4, none⟩ = some (.int .i64 0) := P.out.cel.2.2.2.2.1
  have c5 : Wn.cell? ⟨w2.heap.size, 5, none⟩ = some (.int .i64 0) := P.out.cel.2.2.2.2.2.1
  have c6 : Wn.cell? ⟨w2.heap.size, 6, none⟩ = some (.bool false) := P.out.cel.2.2.2.2.2.2.1
  have c7 : Wn.cell? ⟨w2.heap.size, 7, none⟩ = some (.bool false) := P.out.cel.2.2.2.2.2.2.2.1
  have c8 : Wn.cell? ⟨w2.heap.size, 8, none⟩ = some (.slice none 0 0) := P.out.cel.2.2.2.2.2.2.2.2
  go_upto_if 22 with (go_at_call 14; (refine (HCc.out { ef0 with frm := g, lo := e.lo, hi := e.hi } rfl (.slice none 0 0) _).mono ?_); rintro r w8 ⟨rfl, m8⟩; replace P := Lib.hid (P.out.ext m8); clear m8)
  clear c0 c1 c2 c3 c4 c5 c6 c7 c8
  go_cut [22] (fun _ wx => Hid (PE w wx w.heap.size w2.heap.size n (eW2 e) { ef0 with frm := g, lo := e.lo, hi := e.hi, cyc := e.cyc } (.slice none 0 0)))
  case first =>
    cases cy with
    | true =>
      have h7 : ¬ e.frm = 7 := by have := Hcy.out; simpa using this
      have hb := HY1.out h7
      have ew : eW1 e = wCycle :: Lib.itoa e.cyc :: eW2 e := by unfold eW1; rw [if_neg h7]; rfl
      rw [ew] at P
      clear h7 ew
      go_wp2_with fail
      refine (fixed_w n wCycle _ _ P.out.line).mono ?_
      rintro r wc ⟨rfl, l, g'⟩
      replace P := Lib.hid (P.out.call l g')
      clear l g'
      go_wp2_with fail
      refine (number_w n e.cyc hb.1 (by omega) _ _ P.out.line).mono ?_
      rintro r wc ⟨rfl, l, g'⟩
      replace P := Lib.hid (P.out.call l g')
      clear l g'
      have k := P.out.cel.2.2.2.1
      have z := P.out.fz 3
      have P' := Lib.hid (P.out.set3 e.cyc)
      obtain ⟨Wn, hWn⟩ : ∃ Wn, wc.setCell ⟨w2.heap.size, 3, none⟩ (.int .i64 e.cyc) = Wn := ⟨_, rfl⟩
      rw [hWn] at P'
      go_wp2_with fail
      (try rw [hWn])
      replace P := P'
      clear hWn k z
      go_meet
      exact P
    | false =>
      have h7 : e.frm = 7 := by have := Hcy.out; simpa using this
      have ec := HY2.out h7
      have ew : eW1 e = eW2 e := by unfold eW1; rw [if_pos h7]; rfl
      rw [ew] at P
      have ee : { ef0 with frm := g, lo := e.lo, hi := e.hi, cyc := e.cyc } = { ef0 with frm := g, lo := e.lo, hi := e.hi } := by rw [ec]; rfl
      have HE := Lib.hid ee
      clear h7 ew ec ee
      go_wp2_with fail
      go_meet
      rw [HE.out]
      exact P
  case rest =>
    clear P
    have P := hcut
    clear hcut
    have c0 : wc.cell? ⟨w2.heap.size, 0, none⟩ = some (.int .i64 (g : Int)) := P.out.cel.1
    have c1 : wc.cell? ⟨w2.heap.size, 1, none⟩ = some (.int .i64 e.lo) := P.out.cel.2.1
    have c2 : wc.cell? ⟨w2.heap.size, 2, none⟩ = some (.int .i64 e.hi) := P.out.cel.2.2.1
    have c3 : wc.cell? ⟨w2.heap.size, 3, none⟩ = some (.int .i64 e.cyc) := P.out.cel.2.2.2.1
    have c4 : wc.cell? ⟨w2.heap.size, 4, none⟩ = some (.int .i64 0) := P.out.cel.2.2.2.2.1
    have c5 : wc.cell? ⟨w2.heap.size, 5, none⟩ = some (.int .i64 0) := P.out.cel.2.2.2.2.2.1
    have c6 : wc.cell? ⟨w2.heap.size, 6, none⟩ = some (.bool false) := P.out.cel.2.2.2.2.2.2.1
    have c7 : wc.cell? ⟨w2.heap.size, 7, none⟩ = some (.bool false) := P.out.cel.2.2.2.2.2.2.2.1
    have c8 : wc.cell? ⟨w2.heap.size, 8, none⟩ = some (.slice none 0 0) := P.out.cel.2.2.2.2.2.2.2.2
    go_upto_if 29 with (go_at_call 16; (refine (HWd.out { ef0 with frm := g, lo := e.lo, hi := e.hi, cyc := e.cyc } rfl (.slice none 0 0) _).mono ?_); rintro r w8 ⟨rfl, m8⟩; replace P := Lib.hid (P.out.ext m8); clear m8)
    clear c0 c1 c2 c3 c4 c5 c6 c7 c8
    go_cut [29] (fun _ wx => Hid (PE w wx w.heap.size w2.heap.size n (eW3 e) { ef0 with frm := g, lo := e.lo, hi := e.hi, cyc := e.cyc, wid := e.wid } (.slice none 0 0)))
    case first =>
      cases wd with
      | true =>
        have h4 : e.frm = 4 := by have := Hwd.out; simpa using this
        have ew : eW2 e = wWidth :: Lib.itoa e.wid :: eW3 e := by unfold eW2; rw [if_pos h4]; rfl
        rw [ew] at P
        clear h4 ew
        go_wp2_with fail
        refine (fixed_w n wWidth _ _ P.out.line).mono ?_
        rintro r wc ⟨rfl, l, g'⟩
        replace P := Lib.hid (P.out.call l g')
        clear l g'
        go_wp2_with fail
        refine (number_w n e.wid w1' (by omega) _ _ P.out.line).mono ?_
        rintro r wc ⟨rfl, l, g'⟩
        replace P := Lib.hid (P.out.call l g')
        clear l g'
        have k := P.out.cel.2.2.2.2.1
        have z := P.out.fz 4
        have P' := Lib.hid (P.out.set4 e.wid)
        obtain ⟨Wn, hWn⟩ : ∃ Wn, wc.setCell ⟨w2.heap.size, 4, none⟩ (.int .i64 e.wid) = Wn := ⟨_, rfl⟩
        rw [hWn] at P'
        go_wp2_with fail
        (try rw [hWn])
        replace P := P'
        clear hWn k z
        go_meet
        exact P
      | false =>
        have h4 : ¬ e.frm = 4 := by have := Hwd.out; simpa using this
        have ec := HW4.out h4
        have ew : eW2 e = eW3 e := by unfold eW2; rw [if_neg h4]; rfl
        rw [ew] at P
        have ee : { ef0 with frm := g, lo := e.lo, hi := e.hi, cyc := e.cyc, wid := e.wid } = { ef0 with frm := g, lo := e.lo, hi := e.hi, cyc := e.cyc } := by rw [ec]; rfl
        have HE := Lib.hid ee
        clear h4 ew ec ee
        go_wp2_with fail
        go_meet
        rw [HE.out]
        exact P
    case rest =>
      clear P
      have P := hcut
      clear hcut
      have HO := Lib.hid (option_any n (eW3 e) false (bs wSpread) wc P.out.line)
      rw [bs_list, (op_spr e).1, (op_spr e).2] at HO
      obtain ⟨sp, hsp⟩ : ∃ sp, (!decide (e.spr = 0)) = sp := ⟨_, rfl⟩
      rw [hsp] at HO
      have Hsp := Lib.hid hsp
      clear hsp
      go_upto_if 36 with (go_at_call 39; (refine HO.out.mono ?_); rintro r w8 ⟨rfl, l8, m8⟩; have P8 := Lib.hid (P.out.call l8 m8); clear l8 m8)
      clear HO P
      have P := P8
      clear P8
      go_cut [36] (fun _ wx => Hid (PE w wx w.heap.size w2.heap.size n (eW4 e) { ef0 with frm := g, lo := e.lo, hi := e.hi, cyc := e.cyc, wid := e.wid, spr := e.spr } (.slice none 0 0)))
      case first =>
        cases sp with
        | true =>
          have h0 : ¬ e.spr = 0 := by have := Hsp.out; simpa using this
          rw [if_neg h0] at P
          have HZ := Lib.hid h0
          clear h0
          go_wp2_with fail
          refine (takeSpread_ok n e.spr HZ.out s1 s2 _ _ P.out.line).mono ?_
          rintro r wc ⟨rfl, l, g'⟩
          replace P := Lib.hid (P.out.call l g')
          clear l g'
          have k := P.out.cel.2.2.2.2.2.1
          have z := P.out.fz 5
          have P' := Lib.hid (P.out.set5 e.spr)
          obtain ⟨Wn, hWn⟩ : ∃ Wn, wc.setCell ⟨w2.heap.size, 5, none⟩ (.int .i64 e.spr) = Wn := ⟨_, rfl⟩
          rw [hWn] at P'
          go_wp2_with fail
          (try rw [hWn])
          replace P := P'
          clear hWn k z
          go_meet
          exact P
        | false =>
          have h0 : e.spr = 0 := by have := Hsp.out; simpa using this
          rw [if_pos h0] at P
          have ee : { ef0 with frm := g, lo := e.lo, hi := e.hi, cyc := e.cyc, wid := e.wid, spr := e.spr } = { ef0 with frm := g, lo := e.lo, hi := e.hi, cyc := e.cyc, wid := e.wid } := by rw [h0]; rfl
          have HE := Lib.hid ee
          clear h0 ee
          go_wp2_with fail
          go_meet
          rw [HE.out]
          exact P
      case rest =>
        clear P
        have P := hcut
        clear hcut
        go_wp2_with fail
        have HO := Lib.hid (option_any n (eW4 e) false (bs wBack) _ P.out.line)
        rw [bs_list, (op_back e).1, (op_back e).2] at HO
        refine (HO.out).mono ?_
        rintro r wc ⟨rfl, l, g'⟩
        replace P := Lib.hid (P.out.call l g')
        clear l g'
        have k := P.out.cel.2.2.2.2.2.2.1
        have z := P.out.fz 6
        have P' := Lib.hid (P.out.set6 e.bk)
        obtain ⟨Wn, hWn⟩ : ∃ Wn, wc.setCell ⟨w2.heap.size, 6, none⟩ (.bool e.bk) = Wn := ⟨_, rfl⟩
        rw [hWn] at P'
        go_wp2_with fail
        (try rw [hWn])
        replace P := P'
        clear hWn k z
        clear HO
        have HO := Lib.hid (option_any n (eW5 e) false (bs wRel) _ P.out.line)
        rw [bs_list, (op_rel e).1, (op_rel e).2] at HO
        refine (HO.out).mono ?_
        rintro r wc ⟨rfl, l, g'⟩
        replace P := Lib.hid (P.out.call l g')
        clear l g'
        have k := P.out.cel.2.2.2.2.2.2.2.1
        have z := P.out.fz 7
        have P' := Lib.hid (P.out.set7 e.rl)
        obtain ⟨Wn, hWn⟩ : ∃ Wn, wc.setCell ⟨w2.heap.size, 7, none⟩ (.bool e.rl) = Wn := ⟨_, rfl⟩
        rw [hWn] at P'
        go_wp2_with fail
        (try rw [hWn])
        replace P := P'
        clear hWn k z
        clear HO
        have hb0 := P.out.cel.lt
        have hb1 := P.out.res.lt
        have hb2 := P.out.lt
        obtain ⟨base, hbase⟩ : ∃ base, base = Wn.heap.size := ⟨_, rfl⟩
        rw [← hbase] at hb0 hb1 hb2
        have hbl : Hid (base ≤ Wn.heap.size) := by show _ ≤ _; omega
        have HBW : Hid (w.heap.size < base) := hb1
        clear hbase
        obtain ⟨i0, hi, hz0, hz1, hzb⟩ := info_parts infoSt
        have HI := Lib.hid hi
        clear hi
        go_loopw [47] (fun _ wr => ∃ (k : Nat) (v : Value), k ≤ e.st.length ∧ Hid (PE w wr w.heap.size w2.heap.size n ((e.st.drop k).map stWd) { frm := (g : Int), lo := e.lo, hi := e.hi, cyc := e.cyc, wid := e.wid, spr := e.spr, bk := e.bk, rl := e.rl, st := e.st.take k } v) ∧ Hid (RowG base wr 38 3 v k (sCel e.st)) ∧ Hid (base ≤ wr.heap.size)) (fun _ wr => lenAt wr n)
        case atStart => exact ⟨0, .slice none 0 0, Nat.zero_le _, P, RowG.nil _ _ _ _ _, hbl⟩
        case round =>
          obtain ⟨k, v, hk, HP, HR, HB⟩ := hrel
          rename World => wr
          obtain ⟨ao, cap, rfl, hkc, hcm, _⟩ := HR.out.form
          have hlen := Lib.hid HP.out.line.len
          by_cases hlt : k < e.st.length
          · have ew : (e.st.drop k).map stWd = stWd e.st[k] :: (e.st.drop (k + 1)).map stWd := by rw [List.drop_eq_getElem_cons hlt]; rfl
            have hx := HAll.out _ (List.getElem_mem hlt)
            have hcn := sCel_at hlt
            have htk : Hid (e.st.take (k + 1) = e.st.take k ++ [e.st[k]]) := List.take_succ_eq_append_getElem hlt
            rw [ew] at HP hlen
            have HMo := Lib.hid (more_ok n _ wr HP.out.line)
            rw [show decide (0 < (stWd e.st[k] :: (e.st.drop (k + 1)).map stWd).length) = true from decide_eq_true (by simp)] at HMo
            have PD := Lib.hid (HP.out.ext ((Bl.refl wr).drew))
            have hnd : n < wr.drew.heap.size := PD.out.lt
            have HT := Lib.hid (takeStep_ok n e.st[k] hx _ wr.drew PD.out.line hnd)
            obtain ⟨x, hxx⟩ : ∃ x, x = e.st[k] := ⟨_, rfl⟩
            rw [← hxx] at HT hcn
            have HCn := Lib.hid hcn
            have hbw := HB.out
            have d8 : wr.cell? ⟨w2.heap.size, 8, none⟩ = some (.slice ao k cap) := HP.out.cel.2.2.2.2.2.2.2.2
            clear ew hx hcn hxx
            go_upto_region 18 with (go_at_call 41; (refine HMo.out.mono ?_); rintro r wx ⟨rfl, rfl⟩)
            go_region_law (first
              | (have P6 := Lib.hid (P5.out.ext ((Bl.refl w5).alloc (.cells #[.int .i64 x.lv, .int .i64 x.ho, .int .i64 x.fa] 38)))
                 have R6 := Lib.hid (R5.out.bl ((Bl.refl w5).alloc (.cells #[.int .i64 x.lv, .int .i64 x.ho, .int .i64 x.fa] 38)))
                 refine step_append_rowG (by rfl) _ _ 22 (by rfl) base 38 i0 (.agg #[.int .i64 0, .int .i64 0, .int .i64 0]) 3 24 Tryd.underlying22 HI.out hz0 hz1 hzb rfl (by decide) _ (.slice ao k cap) k (sCel e.st) (sCel e.st) (by rfl) R6.out w5.heap.size [.int .i64 x.lv, .int .i64 x.ho, .int .i64 x.fa] rfl (by first | rfl | simp [go_sem]) ?_ ?_ (fun _ _ => rfl) HCn.out (by omega) (by decide) (by have := hb5; simp; omega) ?_
                 · intro j u hj
                   match j, hj with
                   | 0, hj => simp at hj; subst hj; simp [Addr.add]
                   | 1, hj => simp at hj; subst hj; simp [Addr.add]
                   | 2, hj => simp at hj; subst hj; simp [Addr.add]
                 · intro u hu; simp at hu; rcases hu with rfl | rfl | rfl <;> rfl
                 intro v' w7 hr7 hg7 hat7
                 obtain ⟨ao7, cp7, rfl, _⟩ := hr7.form
                 have P7 := Lib.hid (P6.out.row hg7 (fun q hq => by have := (R6.out.lt q hq).1; omega))
                 have R7 := Lib.hid hr7
                 have d8 : w7.cell? ⟨w2.heap.size, 8, none⟩ = some (.slice ao k cap) := P7.out.cel.2.2.2.2.2.2.2.2
                 have z8 := P7.out.fz 8
                 have hb7 := hg7.size
                 clear P6 R6 hr7 hg7 hat7)
              | (go_simp; go_at_call 42; (refine HT.out.mono ?_); rintro r w5 ⟨rfl, l5, g5⟩
                 have P5 := Lib.hid (PD.out.call l5 g5)
                 have R5 := Lib.hid ((HR.out.bl ((Bl.refl wr).drew)).kept g5 (fun q hq he => by have := (HR.out.lt q hq).1; injection he with he; omega))
                 have hb5 : base ≤ w5.heap.size := Nat.le_trans hbw g5.size
                 have d8 : w5.cell? ⟨w2.heap.size, 8, none⟩ = some (.slice ao k cap) := P5.out.cel.2.2.2.2.2.2.2.2
                 have hN5 := P5.out.cel.lt
                 clear l5 g5))
            all_goals
              have PF : Hid (PE w (w7.setCell ⟨w2.heap.size, 8, none⟩ (.slice ao7 (k + 1) cp7)) w.heap.size w2.heap.size n ((e.st.drop (k + 1)).map stWd) { frm := (g : Int), lo := e.lo, hi := e.hi, cyc := e.cyc, wid := e.wid, spr := e.spr, bk := e.bk, rl := e.rl, st := e.st.take (k + 1) } (.slice ao7 (k + 1) cp7)) := P7.out.set8 (fun s => by simp) (.slice ao7 (k + 1) cp7) (e.st.take (k + 1))
              have RF := Lib.hid (R7.out.kept (set_grown w7 w2.heap.size 8 (.slice ao7 (k + 1) cp7)) (fun q hq he => by have := (R7.out.lt q hq).1; injection he with he; omega))
              have hbF : Hid (base ≤ (w7.setCell ⟨w2.heap.size, 8, none⟩ (.slice ao7 (k + 1) cp7)).heap.size) := by show _ ≤ _; simp at hb7; simp; omega
              have hms : Hid (lenAt (w7.setCell ⟨w2.heap.size, 8, none⟩ (.slice ao7 (k + 1) cp7)) n < lenAt wr n) := by show _ < _; rw [PF.out.line.len, hlen.out]; simp
              clear d8 z8 hb7 P7 R7
              go_roundw
              case rel => first | exact ⟨k + 1, .slice ao7 (k + 1) cp7, by omega, PF, RF, hbF⟩ | ((repeat apply Exists.intro); exact ⟨⟨k + 1, .slice ao7 (k + 1) cp7, by omega, PF, RF, hbF⟩, rfl⟩)
              case measure => exact hms.out
          · have hkl : k = e.st.length := by omega
            subst hkl
            have ew : (e.st.drop e.st.length).map stWd = [] := by rw [List.drop_length]; rfl
            rw [ew] at HP
            have HMo := Lib.hid (more_ok n _ wr HP.out.line)
            rw [show decide (0 < ([] : List (List UInt8)).length) = false from rfl] at HMo
            obtain ⟨q1, _, _, u4, q0, o4, cap4, rfl, _⟩ := HP.out.line
            rw [show ([] : List (List UInt8)).length = 0 from rfl] at q0
            have HV := Lib.hid (row_stp HR.out)
            have HEn := Lib.hid (fun w' h1 h0 => ended_cell n 0 cap4 o4 false w' h1 h0)
            rw [show (!false && 0 == 0) = true from rfl] at HEn
            have hRn : w.heap.size ≠ n := HP.out.nR
            obtain ⟨p0, p1, p2, p3, p4, p5, p6, p7, p8⟩ := HP.out.res
            simp only [ef0] at p0 p1 p2 p3 p4 p5 p6 p7
            have hEq : Hid (Value.agg #[.int .i64 (g : Int), .int .i64 e.lo, .int .i64 e.hi, .int .i64 e.cyc, .int .i64 e.wid, .int .i64 e.spr, .bool e.bk, .bool e.rl, .slice ao e.st.length cap] = effV e (.slice ao e.st.length cap)) := by
              show _ = _; unfold effV; rw [HG.out]
            have HBL := Lib.hid HP.out.bl
            clear ew hlen
            have c0 : wr.cell? ⟨w2.heap.size, 0, none⟩ = some (.int .i64 (g : Int)) := HP.out.cel.1
            have c1 : wr.cell? ⟨w2.heap.size, 1, none⟩ = some (.int .i64 e.lo) := HP.out.cel.2.1
            have c2 : wr.cell? ⟨w2.heap.size, 2, none⟩ = some (.int .i64 e.hi) := HP.out.cel.2.2.1
            have c3 : wr.cell? ⟨w2.heap.size, 3, none⟩ = some (.int .i64 e.cyc) := HP.out.cel.2.2.2.1
            have c4 : wr.cell? ⟨w2.heap.size, 4, none⟩ = some (.int .i64 e.wid) := HP.out.cel.2.2.2.2.1
            have c5 : wr.cell? ⟨w2.heap.size, 5, none⟩ = some (.int .i64 e.spr) := HP.out.cel.2.2.2.2.2.1
            have c6 : wr.cell? ⟨w2.heap.size, 6, none⟩ = some (.bool e.bk) := HP.out.cel.2.2.2.2.2.2.1
            have c7 : wr.cell? ⟨w2.heap.size, 7, none⟩ = some (.bool e.rl) := HP.out.cel.2.2.2.2.2.2.2.1
            have c8 : wr.cell? ⟨w2.heap.size, 8, none⟩ = some (.slice ao e.st.length cap) := HP.out.cel.2.2.2.2.2.2.2.2
            have z0 := HP.out.rz 0
            have z1 := HP.out.rz 1
            have z2 := HP.out.rz 2
            have z3 := HP.out.rz 3
            have z4 := HP.out.rz 4
            have z5 := HP.out.rz 5
            have z6 := HP.out.rz 6
            have z7 := HP.out.rz 7
            have z8 := HP.out.rz 8
            go_upto_region 19 with (go_at_call 41; (refine HMo.out.mono ?_); rintro r wx ⟨rfl, rfl⟩)
            clear HMo
            go_region_with (
              go_at_call 44
              (with_reducible refine (HEn.out _ ?_ ?_).mono ?_)
              · first | exact q1 | (simp [World.cell?_setCell_other, hRn, q1]; done)
              · first | exact q0 | (simp [World.cell?_setCell_other, hRn, q0]; done)
              rintro r w6 ⟨rfl, rfl⟩)
            all_goals (
              obtain ⟨X, hX⟩ : ∃ X, X = (((((((((wr.setCell ⟨w.heap.size, 0, none⟩ (.int .i64 (g : Int))).setCell ⟨w.heap.size, 1, none⟩ (.int .i64 e.lo)).setCell ⟨w.heap.size, 2, none⟩ (.int .i64 e.hi)).setCell ⟨w.heap.size, 3, none⟩ (.int .i64 e.cyc)).setCell ⟨w.heap.size, 4, none⟩ (.int .i64 e.wid)).setCell ⟨w.heap.size, 5, none⟩ (.int .i64 e.spr)).setCell ⟨w.heap.size, 6, none⟩ (.bool e.bk)).setCell ⟨w.heap.size, 7, none⟩ (.bool e.rl)).setCell ⟨w.heap.size, 8, none⟩ (.slice ao e.st.length cap)) := ⟨_, rfl⟩
              have hE := stv9 (.int .i64 (g : Int)) (.int .i64 e.lo) (.int .i64 e.hi) (.int .i64 e.cyc) (.int .i64 e.wid) (.int .i64 e.spr) (.bool e.bk) (.bool e.rl) (.slice ao e.st.length cap) p0 p1 p2 p3 p4 p5 p6 p7 p8
              have hfin' := stb9 HBL.out (Nat.le_refl _) (.int .i64 (g : Int)) (.int .i64 e.lo) (.int .i64 e.hi) (.int .i64 e.cyc) (.int .i64 e.wid) (.int .i64 e.spr) (.bool e.bk) (.bool e.rl) (.slice ao e.st.length cap)
              have hgr := stg9 (W := wr) (N := w.heap.size) (.int .i64 (g : Int)) (.int .i64 e.lo) (.int .i64 e.hi) (.int .i64 e.cyc) (.int .i64 e.wid) (.int .i64 e.spr) (.bool e.bk) (.bool e.rl) (.slice ao e.st.length cap)
              rw [← hX] at hE hfin' hgr
              have HE := Lib.hid hE
              have hfin := Lib.hid hfin'
              have hSt := Lib.hid (row_stp (HR.out.kept hgr (fun q hq he => by have := (HR.out.lt q hq).1; have := HBW.out; injection he with he; omega)))
              clear hE hfin' hgr p0 p1 p2 p3 p4 p5 p6 p7 p8 c0 c1 c2 c3 c4 c5 c6 c7 c8 z0 z1 z2 z3 z4 z5 z6 z7 z8 q0 q1
              rw [← hX]
              clear hX
              simp only [Act.put]
              go_simp
              go_step
              go_step
              obtain ⟨E0, E1, E2, E3, E4, E5, E6, E7, E8⟩ := HE.out
              refine bodyPost_ret (v := .tuple #[.agg #[.int .i64 (g : Int), .int .i64 e.lo, .int .i64 e.hi, .int .i64 e.cyc, .int .i64 e.wid, .int .i64 e.spr, .bool e.bk, .bool e.rl, .slice ao e.st.length cap], .bool true]) ?_ rfl ⟨.slice ao e.st.length cap, ?_, ?_, ?_, fun q hq => by have := (HR.out.lt q hq).1; have := HBW.out; omega⟩
              · simp [results, Tryd.results28, go_sem, E0, E1, E2, E3, E4, E5, E6, E7, E8]
              · rw [← hEq.out]
              · first | exact hSt.out | exact hSt.out.bl ((Bl.refl _).drew) | exact hSt.out.bl ((Bl.refl _).drewN _)
              · first | exact hfin.out | exact hfin.out.drew | exact hfin.out.drewN _)
        
end Go.Proofs.YtkllhockcnokeaaDoor

/- Read of the program, on the text of a right effect. -/
namespace Go.Proofs.YtkllhockcnokeaaDoor
open Go.RowKit Go.Sort Go.Lib

def ReadPost (e : Eff) (w : World) (r : Ending) (w' : World) : Prop := ∃ v, r = .returned (.tuple #[effV e v, .int .i64 0]) ∧ StpVal w' v e.st ∧ Bl w w'
theorem StpVal.grown {w w' : World} {v : Value} {L : List Stp} {N : Nat} (h : StpVal w v L) (g : w.grownBy w' (some N)) (hb : ∀ o c, v = .slice (some o) L.length c → 0 < L.length → o.block ≠ N) : StpVal w' v L := by
  obtain ⟨o, cap, h1, h2, h3⟩ := h
  refine ⟨o, cap, h1, h2, fun hp => ?_⟩
  obtain ⟨b, off, h4, h5⟩ := h3 hp
  have hne : b ≠ N := hb ⟨b, off, none⟩ cap (by rw [h1, h4]) hp
  exact ⟨b, off, h4, fun i hi => ⟨grown_cell g hne (h5 i hi).1, grown_cell g hne (h5 i hi).2.1, grown_cell g hne (h5 i hi).2.2⟩⟩
set_option maxRecDepth 100000 in
set_option maxHeartbeats 12800000 in
theorem read_ok (e : Eff) (w : World) (hk : ckE e = 0) (hm : MxAt w) (hf : FwAt w) :
    Calls Tryd.prog 11 #[.string (bs (efTxt e))] w (ReadPost e w) := by
  have hz : ((bs (efTxt e)).size : Int) ≤ 4000 := by have := efTxt_len hk; rw [bs_size]; omega
  obtain ⟨W0, hW0⟩ : ∃ W0, W0 = w.alloc (.cells #[.int .i64 0, .int .i64 0, .int .i64 0, .int .i64 0, .int .i64 0, .int .i64 0, .bool false, .bool false, .slice none 0 0] 24) := ⟨_, rfl⟩
  have b0 : Bl w W0 := by rw [hW0]; exact (Bl.refl w).alloc _
  have R0 := Lib.hid (show EffAt W0 w.heap.size ef0 (.slice none 0 0) by rw [hW0]; exact EffAt.new w _ ef0 _)
  have RZ0 := Lib.hid (show ∀ i, W0.frozen? ⟨w.heap.size, i, none⟩ = false from fun i => by rw [hW0]; simp)
  have HPs := Lib.hid (parse_ok e W0 hk (hm.bl b0) (hf.bl b0))
  have HCk := Lib.hid (fun v w' (h : StpVal w' v e.st) => by have := check_any e v w' h; rw [hk] at this; exact this)
  have B0 := Lib.hid b0
  clear hk hm hf b0
  generalize bs (efTxt e) = TX at *
  go_enter Tryd.func11, Tryd.ntmps11
  go_wp2_with fail
  rw [← hW0]
  clear hW0
  refine HPs.out.mono ?_
  rintro r w1 ⟨v, rfl, hv, hb, hown⟩
  have HO := Lib.hid hown
  clear hown
  have HV := Lib.hid hv
  obtain ⟨o, cap, rfl, _, _⟩ := hv
  have B1 := Lib.hid hb
  obtain ⟨W2, hW2⟩ : ∃ W2, W2 = w1.alloc (.cells #[.int .i64 e.frm, .int .i64 e.lo, .int .i64 e.hi, .int .i64 e.cyc, .int .i64 e.wid, .int .i64 e.spr, .bool e.bk, .bool e.rl, .slice o e.st.length cap] 24) := ⟨_, rfl⟩
  have b2 : Bl w1 W2 := by rw [hW2]; exact (Bl.refl w1).alloc _
  have HA := Lib.hid (show EffAt W2 w1.heap.size e (.slice o e.st.length cap) by rw [hW2]; exact EffAt.new _ _ _ _)
  have HVW := Lib.hid (HV.out.bl b2)
  have B2 := Lib.hid (hb.trans b2)
  have H2 := Lib.hid hW2
  clear hW2 hb b2 HPs
  unfold effV
  go_upto_region 6 with fail
  rw [← H2.out]
  clear H2
  obtain ⟨c0, c1, c2, c3, c4, c5, c6, c7, c8⟩ := HA.out
  go_wp2_with fail
  refine (HCk.out _ W2 HVW.out).mono ?_
  rintro r w3 ⟨rfl, m3⟩
  have B3 := Lib.hid (B2.out.trans m3)
  have HS3 := Lib.hid (HVW.out.bl m3)
  clear c0 c1 c2 c3 c4 c5 c6 c7 c8
  obtain ⟨c0, c1, c2, c3, c4, c5, c6, c7, c8⟩ := HA.out.bl m3
  obtain ⟨p0, p1, p2, p3, p4, p5, p6, p7, p8⟩ := R0.out.bl B3.out
  simp only [ef0] at p0 p1 p2 p3 p4 p5 p6 p7
  have hlt := R0.out.lt
  have z0 := (B3.out.frozen (p := ⟨w.heap.size, 0, none⟩) hlt).trans (RZ0.out 0)
  have z1 := (B3.out.frozen (p := ⟨w.heap.size, 1, none⟩) hlt).trans (RZ0.out 1)
  have z2 := (B3.out.frozen (p := ⟨w.heap.size, 2, none⟩) hlt).trans (RZ0.out 2)
  have z3 := (B3.out.frozen (p := ⟨w.heap.size, 3, none⟩) hlt).trans (RZ0.out 3)
  have z4 := (B3.out.frozen (p := ⟨w.heap.size, 4, none⟩) hlt).trans (RZ0.out 4)
  have z5 := (B3.out.frozen (p := ⟨w.heap.size, 5, none⟩) hlt).trans (RZ0.out 5)
  have z6 := (B3.out.frozen (p := ⟨w.heap.size, 6, none⟩) hlt).trans (RZ0.out 6)
  have z7 := (B3.out.frozen (p := ⟨w.heap.size, 7, none⟩) hlt).trans (RZ0.out 7)
  have z8 := (B3.out.frozen (p := ⟨w.heap.size, 8, none⟩) hlt).trans (RZ0.out 8)
  clear m3
  obtain ⟨X, hX⟩ : ∃ X, X = (((((((((w3.setCell ⟨w.heap.size, 0, none⟩ (.int .i64 e.frm)).setCell ⟨w.heap.size, 1, none⟩ (.int .i64 e.lo)).setCell ⟨w.heap.size, 2, none⟩ (.int .i64 e.hi)).setCell ⟨w.heap.size, 3, none⟩ (.int .i64 e.cyc)).setCell ⟨w.heap.size, 4, none⟩ (.int .i64 e.wid)).setCell ⟨w.heap.size, 5, none⟩ (.int .i64 e.spr)).setCell ⟨w.heap.size, 6, none⟩ (.bool e.bk)).setCell ⟨w.heap.size, 7, none⟩ (.bool e.rl)).setCell ⟨w.heap.size, 8, none⟩ (.slice o e.st.length cap)) := ⟨_, rfl⟩
  have hE := stv9 (.int .i64 e.frm) (.int .i64 e.lo) (.int .i64 e.hi) (.int .i64 e.cyc) (.int .i64 e.wid) (.int .i64 e.spr) (.bool e.bk) (.bool e.rl) (.slice o e.st.length cap) p0 p1 p2 p3 p4 p5 p6 p7 p8
  have hfin' := stb9 (B0.out.trans B3.out) (Nat.le_refl _) (.int .i64 e.frm) (.int .i64 e.lo) (.int .i64 e.hi) (.int .i64 e.cyc) (.int .i64 e.wid) (.int .i64 e.spr) (.bool e.bk) (.bool e.rl) (.slice o e.st.length cap)
  have hgr := stg9 (W := w3) (N := w.heap.size) (.int .i64 e.frm) (.int .i64 e.lo) (.int .i64 e.hi) (.int .i64 e.cyc) (.int .i64 e.wid) (.int .i64 e.spr) (.bool e.bk) (.bool e.rl) (.slice o e.st.length cap)
  rw [← hX] at hE hfin' hgr
  have HE := Lib.hid hE
  have hfin := Lib.hid hfin'
  have hSt := Lib.hid (HS3.out.grown hgr (fun oo cc he hp => by
    have h1 := HO.out oo.block (by rw [he]; rfl)
    have := hlt
    omega))
  have HX := Lib.hid hX
  clear hE hfin' hgr hX
  iterate 40 (first | go_step | go_simp)
  rw [← HX.out]
  obtain ⟨E0, E1, E2, E3, E4, E5, E6, E7, E8⟩ := HE.out
  refine bodyPost_ret (v := .tuple #[.agg #[.int .i64 e.frm, .int .i64 e.lo, .int .i64 e.hi, .int .i64 e.cyc, .int .i64 e.wid, .int .i64 e.spr, .bool e.bk, .bool e.rl, .slice o e.st.length cap], .int .i64 0]) ?_ rfl ⟨.slice o e.st.length cap, rfl, hSt.out, hfin.out⟩
  simp [results, Tryd.results11, go_sem, E0, E1, E2, E3, E4, E5, E6, E7, E8]
end Go.Proofs.YtkllhockcnokeaaDoor

/- slices.Equal of two rows of steps that read the same; sameEffect of two effects that are the same. -/
namespace Go.Proofs.YtkllhockcnokeaaDoor
open Go.RowKit Go.Sort

set_option maxRecDepth 100000 in
set_option maxHeartbeats 3200000 in
theorem equal_stps (v u : Value) (L : List Stp) (w : World) (hv : StpVal w v L) (hu : StpVal w u L) :
    Calls Tryd.prog 29 #[v, u] w fun e w' => e = .returned (.bool true) ∧ ∃ q, w' = w.drewN q := by
  obtain ⟨o, cap, rfl, hm, hp⟩ := hv
  obtain ⟨o2, cap2, rfl, _, hp2⟩ := hu
  have HP := Lib.hid hp
  have HP2 := Lib.hid hp2
  clear hp hp2
  go_enter Tryd.func29, Tryd.ntmps29
  go_wp2
  go_loopw [13] (fun vi wr => ∃ k q : Nat, k ≤ L.length ∧ vi = .int .i64 k ∧ wr = w.drewN q) (fun vi _ => L.length - (intOf vi).toNat)
  case atStart => exact ⟨0, 0, Nat.zero_le _, rfl, (World.drewN_zero w).symm⟩
  case round =>
    obtain ⟨k, q, hk, rfl, rfl⟩ := hrel
    by_cases hlt : k < L.length
    · obtain ⟨b, off, rfl, hL⟩ := HP.out (by omega)
      obtain ⟨b2, off2, rfl, hL2⟩ := HP2.out (by omega)
      obtain ⟨c0, c1, c2⟩ := hL k hlt
      obtain ⟨d0, d1, d2⟩ := hL2 k hlt
      obtain ⟨x, hx⟩ : ∃ x, x = L[k] := ⟨_, rfl⟩
      rw [← hx] at c0 c1 c2 d0 d1 d2
      clear hx hL hL2
      have k1 : (k : Int) < (L.length : Int) := by omega
      have t1 : (x.lv == x.lv) = true := by simp
      have t2 : (x.ho == x.ho) = true := by simp
      have t3 : (x.fa == x.fa) = true := by simp
      go_wp2
      go_quiet (fail)
      go_wp2
      exact ⟨⟨k + 1, q + nq, by omega, by congr 1, rfl⟩, by simp [intOf]; omega⟩
    · obtain rfl : k = L.length := by omega
      go_wp2
      go_ret
      exact ⟨rfl, q, rfl⟩
set_option maxRecDepth 100000 in
set_option maxHeartbeats 6400000 in
theorem same_eff (e : Eff) (v u : Value) (w : World) (hv : StpVal w v e.st) (hu : StpVal w u e.st) :
    Calls Tryd.prog 12 #[effV e v, effV e u] w fun r w' => r = .returned (.bool true) ∧ Bl w w' := by
  have HE := Lib.hid (fun w' (m : Bl w w') => equal_stps v u e.st w' (hv.bl m) (hu.bl m))
  obtain ⟨o, cap, rfl, _, _⟩ := hv
  obtain ⟨o2, cap2, rfl, _, _⟩ := hu
  unfold effV
  obtain ⟨W1, hW1⟩ : ∃ W1, W1 = (w.alloc (.cells #[.int .i64 e.frm, .int .i64 e.lo, .int .i64 e.hi, .int .i64 e.cyc, .int .i64 e.wid, .int .i64 e.spr, .bool e.bk, .bool e.rl, .slice o e.st.length cap] 24)).alloc (.cells #[.int .i64 e.frm, .int .i64 e.lo, .int .i64 e.hi, .int .i64 e.cyc, .int .i64 e.wid, .int .i64 e.spr, .bool e.bk, .bool e.rl, .slice o2 e.st.length cap2] 24) := ⟨_, rfl⟩
  have b1 : Bl w W1 := by rw [hW1]; exact ((Bl.refl w).alloc _).alloc _
  have hA : EffAt W1 w.heap.size e (.slice o e.st.length cap) := by rw [hW1]; exact (EffAt.new w _ e _).bl ((Bl.refl _).alloc _)
  have hB : EffAt W1 (w.heap.size + 1) e (.slice o2 e.st.length cap2) := by
    have := EffAt.new (w.alloc (.cells #[.int .i64 e.frm, .int .i64 e.lo, .int .i64 e.hi, .int .i64 e.cyc, .int .i64 e.wid, .int .i64 e.spr, .bool e.bk, .bool e.rl, .slice o e.st.length cap] 24)) 24 e (.slice o2 e.st.length cap2)
    rw [World.size_alloc] at this
    rw [hW1]; exact this
  obtain ⟨c0, c1, c2, c3, c4, c5, c6, c7, c8⟩ := hA
  obtain ⟨d0, d1, d2, d3, d4, d5, d6, d7, d8⟩ := hB
  have t0 : (e.frm == e.frm) = true := by simp
  have t1 : (e.lo == e.lo) = true := by simp
  have t2 : (e.hi == e.hi) = true := by simp
  have t3 : (e.cyc == e.cyc) = true := by simp
  have t4 : (e.wid == e.wid) = true := by simp
  have t5 : (e.spr == e.spr) = true := by simp
  have t6 : (e.bk == e.bk) = true := by simp
  have t7 : (e.rl == e.rl) = true := by simp
  go_enter Tryd.func12, Tryd.ntmps12
  go_wp2_with fail
  (try rw [← hW1])
  clear hW1
  go_wp2_with (go_at_call 29; (refine (HE.out _ b1).mono ?_); rintro r w2 ⟨rfl, q, rfl⟩)
  go_ret
  exact ⟨rfl, b1.drewN _⟩
end Go.Proofs.YtkllhockcnokeaaDoor

/- The row's last step, where it is known that nothing below the heap's size has turned. -/
namespace Go.Proofs.YtkllhockcnokeaaDoor
open Go.RowKit Go.ChangeShapes Go.WideShapes Go.ChangeAt
section
variable {H : Type} {enc : TypeId × Value → H} {P : Program}
/-- 'post' of a call that has changed nothing that was there, read again. -/
theorem post_of_old {f : Func} {s : ChangeSpec} {apart fresh handsOn again : Bool} {W W' : World} {args : Array Value} {v : Value} {ds gs : List (DataW H)} {before pa pv : List MemPlace}
    (hW : DataW.Whole enc P f.params.toList s.vars apart W args.toList ds gs before)
    (hres : ∀ (b : Nat) (sp : Nat → Bool) (hd : Bool), DataW.TrodAll enc P W' b sp hd f.resultTypes.toList (v.resultList f.resultTypes.size) (s.fn H (ds ++ gs)).results [])
    (hargs : ∀ sp : Nat → Bool, (∀ p ∈ before, sp p.block = true) → DataW.TrodAll enc P W' 0 sp true f.params.toList args.toList (s.fn H (ds ++ gs)).args pa)
    (hvars : ∀ sp : Nat → Bool, (∀ p ∈ before, sp p.block = true) → DataW.TrodVars enc P W' sp s.vars (s.fn H (ds ++ gs)).vars pv)
    (hps : before = pa ++ pv) (hg : Below W.heap.size W W')
    (hok : ∀ (j : Nat) (t : TypeId) (r : Value), f.resultTypes[j]? = some t → (v.resultList f.resultTypes.size)[j]? = some r → Value.okWide P W' .any 0 t r) :
    s.post enc P f apart fresh handsOn again W args v W' := by
  have old : ∀ p ∈ before, p.block < W.heap.size := fun p hp => hW.lt p hp
  have allowed : ∀ p ∈ before, (fun b => decide (b < W.heap.size)) p.block = true := fun p hp => by simpa using old p hp
  refine ⟨ds, gs, before, [], pa, pv, hW, hres _ _ _, hargs _ allowed, hvars _ allowed, World.keptBut_mono (fun p hp => ⟨hp, ?_⟩) (hg.frame (· ∈ before)), fun _ => ?_⟩
  · rw [hps, List.mem_append] at hp; exact Or.inr hp
  · obtain ⟨_, _, _, _, _, hz, hn⟩ := hW
    refine ⟨hok, _, _, ([] ++ pa) ++ pv, ⟨[] ++ pa, pv, trodAll_append (hargs _ (fun _ _ => rfl)) (hres _ _ _), hvars _ (fun _ _ => rfl), rfl, ?_, ?_⟩, ?_⟩
    · intro b off hp
      have hin : MemPlace.cell b off ∈ before := by rw [hps]; simpa using hp
      rw [hg.frozen (old _ hin)]
      exact hz b off hin
    · intro ha
      have := hn ha
      rw [hps] at this
      simpa using this
    · intro p hp _
      rw [hps]
      simpa using hp
theorem post_of_gr {f : Func} {s : ChangeSpec} {apart fresh handsOn again : Bool} {W W' : World} {args : Array Value} {v : Value} {ds gs : List (DataW H)} {before pa pv : List MemPlace}
    (hW : DataW.Whole enc P f.params.toList s.vars apart W args.toList ds gs before)
    (hres : ∀ (b : Nat) (sp : Nat → Bool) (hd : Bool), DataW.TrodAll enc P W' b sp hd f.resultTypes.toList (v.resultList f.resultTypes.size) (s.fn H (ds ++ gs)).results [])
    (hargs : ∀ sp : Nat → Bool, (∀ p ∈ before, sp p.block = true) → DataW.TrodAll enc P W' 0 sp true f.params.toList args.toList (s.fn H (ds ++ gs)).args pa)
    (hvars : ∀ sp : Nat → Bool, (∀ p ∈ before, sp p.block = true) → DataW.TrodVars enc P W' sp s.vars (s.fn H (ds ++ gs)).vars pv)
    (hps : before = pa ++ pv) (hg : Gr W W')
    (hok : ∀ (j : Nat) (t : TypeId) (r : Value), f.resultTypes[j]? = some t → (v.resultList f.resultTypes.size)[j]? = some r → Value.okWide P W' .any 0 t r) :
    s.post enc P f apart fresh handsOn again W args v W' := post_of_old hW hres hargs hvars hps hg.1 hok
end
end Go.Proofs.YtkllhockcnokeaaDoor

/- What all laws' proofs share: the row's last step, for a law that leaves what was there. -/
namespace Go.Proofs.YtkllhockcnokeaaDoor
open Go.RowKit Go.ChangeShapes Go.WideShapes Go.ChangeAt Go.Deep
section
variable {H : Type} {enc : TypeId × Value → H} {P : Program}

theorem trodAll_stays (hl : laidOutB P = true) {W W' : World} {sp : Nat → Bool} (hb : Below W.heap.size W W') : ∀ (ts : List TypeId) (vs : List Value) (ds : List (DataW H)) (p : List MemPlace),
    (∀ t ∈ ts, P.readableRec t = true ∧ t < P.types.size) → DataW.TrodAll enc P W 0 (fun _ => true) true ts vs ds p → (∀ x ∈ p, x.block < W.heap.size) → (∀ x ∈ p, sp x.block = true) →
    DataW.TrodAll enc P W' 0 sp true ts vs ds p
  | [], [], [], _, _, h, _, _ => h
  | t :: ts, v :: vs, d :: ds, p, hr, h, hlt, hs => by
    obtain ⟨p1, q1, h1, h2, rfl⟩ := h
    exact ⟨p1, q1, WideElems.Trod_stays hl (hr t (by simp)).1 (hr t (by simp)).2 h1 (fun x hx => hb.same (hlt x (by simp [hx]))) (fun x hx => hs x (by simp [hx])),
      trodAll_stays hl hb ts vs ds q1 (fun t ht => hr t (by simp [ht])) h2 (fun x hx => hlt x (by simp [hx])) (fun x hx => hs x (by simp [hx])), rfl⟩
  | [], [], _ :: _, _, _, h, _, _ => h.elim
  | [], _ :: _, _, _, _, h, _, _ => h.elim
  | _ :: _, [], _, _, _, h, _, _ => h.elim
  | _ :: _, _ :: _, [], _, _, h, _, _ => h.elim

/-- 'post' of a law that has answered true and has changed nothing that was there. -/
theorem law_old {f : Func} {s : ChangeSpec} {apart fresh handsOn again : Bool} {W W' : World} {args : Array Value} {ds gs : List (DataW H)} {before : List MemPlace} {tb : TypeId}
    (hW : DataW.Whole enc P f.params.toList s.vars apart W args.toList ds gs before) (hv : s.vars = []) (hs : s.fn H (ds ++ gs) = { results := [.lit (.bool true)], args := ds })
    (hr : f.resultTypes = #[tb]) (htb : P.underlying tb = some .bool) (hl : laidOutB P = true) (hp : (f.params.toList.all fun t => P.readableRec t && decide (t < P.types.size)) = true) (hg : Below W.heap.size W W') :
    s.post enc P f apart fresh handsOn again W args (.bool true) W' := by
  have hW0 := hW
  obtain ⟨p, q, hA, hV, hbef, _, _⟩ := hW0
  rw [hv] at hV
  obtain ⟨_, rfl⟩ := trodVars_none hV
  obtain rfl : before = p := by simpa using hbef
  refine post_of_old (pa := before) (pv := []) hW (fun b sp hd => ?_) (fun sp hsp => ?_) (fun sp hsp => ?_) (by simp) hg (ok_one hr rfl (okWide_bool_mk htb _))
  · rw [hs, hr]
    exact trodAll_cons_mk (shut_bool htb _) trodAll_mk0
  · rw [hs]
    exact trodAll_stays hl hg _ _ _ _ (fun t ht => by simpa using List.all_eq_true.1 hp t ht) hA (fun x hx => hW.lt x hx) hsp
  · rw [hs, hv]
    rfl
theorem law_post {f : Func} {s : ChangeSpec} {apart fresh handsOn again : Bool} {W W' : World} {args : Array Value} {ds gs : List (DataW H)} {before : List MemPlace} {tb : TypeId}
    (hW : DataW.Whole enc P f.params.toList s.vars apart W args.toList ds gs before) (hv : s.vars = []) (hs : s.fn H (ds ++ gs) = { results := [.lit (.bool true)], args := ds })
    (hr : f.resultTypes = #[tb]) (htb : P.underlying tb = some .bool) (hl : laidOutB P = true) (hp : (f.params.toList.all fun t => P.readableRec t && decide (t < P.types.size)) = true) (hg : Gr W W') :
    s.post enc P f apart fresh handsOn again W args (.bool true) W' := law_old hW hv hs hr htb hl hp hg.1
end
end Go.Proofs.YtkllhockcnokeaaDoor

/- What the rows of tied cards share: the builder that hands on both the listed variables and the world's shape. -/
namespace Go.Proofs.YtkllhockcnokeaaDoor
open Go.RowKit Go.ChangeShapes Go.WideShapes Go.ChangeAt Go.Lib

section
variable {H : Type} {enc : TypeId × Value → H}
theorem lift_tied {a : Assume} {C : Checked} {os : Os} {f : FuncId} {fn : Func} {s : ChangeSpec} {conds : List PathCond} {apart fresh handsOn again : Bool} {X : World → Array Value → Prop}
    (hX : ∀ (w w' : World) (args : Array Value), w.heap = w'.heap → X w args → X w' args)
    (own : ownKnob C.prog.godebug = none) (started : os.Started) (noInit : C.prog.inits.idxOf? f = none) (hfn : C.prog.funcs[f]? = some fn)
    (witness : ∃ (w : World) (tape : Tape) (i : Input), w.os = os ∧ (w.forCall tape i).Shaped C.prog ∧ i.vars = [] ∧ Input.okWide C.prog (w.forCall tape i) .any w.heap.size f i ∧
      ((s.pre enc C.prog fn conds apart (w.forCall tape i).memory i.args ∧ X (w.forCall tape i).memory i.args) ∧ sizedMet enc C.prog fn (OpenSpec.ofChange s) apart (w.forCall tape i).memory i.args) ∧ a.holds C.prog (lone (Frame.enter C.prog f i.args .normal) [] (w.forCall tape i)))
    (contract : ∀ (W : World) (base : Nat) (args : Array Value) (ds gs : List (DataW H)) (before : List MemPlace),
      (∀ (j : Nat) t v, fn.params[j]? = some t → args[j]? = some v → Value.okWide C.prog W .any base t v) →
      DataW.Whole enc C.prog fn.params.toList s.vars apart W args.toList ds gs before →
      (DataW.weightsEach C.prog (fn.params.toList ++ s.plain.varTypes C.prog) (ds ++ gs)).all (· ≤ reachBytes) = true → X W args → W.ShapedOpen C.prog →
      Calls C.prog f args W fun e W' => ∃ v, e = .returned v ∧ s.post enc C.prog fn apart fresh handsOn again W args v W') :
    ReturnsInHanded a C os f .any (fun w args => (s.pre enc C.prog fn conds apart w args ∧ X w args) ∧ sizedMet enc C.prog fn (OpenSpec.ofChange s) apart w args) (s.post enc C.prog fn apart fresh handsOn again) := by
  refine returnsInHanded_of_calls own started noInit witness ?_
  intro w tape i _ hsh _ hok hpre _
  obtain ⟨_, _, _, fn', hfn', _, _, _, _, hval⟩ := hok
  have e : fn' = fn := Option.some.inj (hfn'.symm.trans hfn)
  subst e
  obtain ⟨⟨⟨ds, gs, before, hw, hc⟩, hx⟩, hz⟩ := hpre
  have hw' := DataW.Whole.of_heap (w' := w.forCall tape i) (by rfl) hw
  refine (contract (w.forCall tape i) w.heap.size i.args ds gs before hval hw' (hz.weights hw) (hX _ _ _ (by rfl) hx) hsh).mono fun e W' ⟨v, he, hp⟩ => ?_
  subst he
  exact ChangeSpec.post_blind hp
end
end Go.Proofs.YtkllhockcnokeaaDoor

/- An array that lies in memory as a row lists it, element by element; the table of powers. -/
namespace Go.Proofs.YtkllhockcnokeaaDoor
open Go.RowKit Go.ChangeShapes Go.WideShapes Go.ChangeAt Go.Lib

theorem arr_cells {H : Type} {enc : TypeId × Value → H} {P : Program} {w : World} {base : Nat} {sp : Nat → Bool} {held : Bool} {fuel : Nat} {t e : TypeId} {n m : Nat} {cs : List Value} {Ds : List (DataW H)} {p : List MemPlace}
    (ht : P.underlying t = some (.array n e)) (hce : P.cellsOf e = m) (hct : P.cellsOf t = n * m)
    (h : DataW.trod enc P w base sp held fuel t cs = some (.agg Ds, p)) : cs.length = n * m ∧ Ds.length = n ∧ ∀ i (hi : i < Ds.length), ∃ (f : Nat) (pl : List MemPlace), DataW.trod enc P w base sp held f e ((cs.drop (i * m)).take m) = some (Ds[i], pl) := by
  cases fuel with
  | zero => simp [DataW.trod] at h
  | succ fuel =>
    simp only [DataW.trod, ht, hce, hct] at h
    split at h
    · rename_i hl
      obtain ⟨xs, hm, hx⟩ := Option.map_eq_some_iff.1 h
      have hxs : xs.map (·.1) = Ds := by
        have := congrArg Prod.fst hx
        simpa using this
      have hxl : xs.length = n := by simpa using mapM_length hm
      refine ⟨hl, by rw [← hxs, List.length_map]; exact hxl, fun i hi => ?_⟩
      have hin : i < n := by rw [← hxs, List.length_map, hxl] at hi; exact hi
      obtain ⟨b, hb, hf⟩ := mapM_at hm i i (by simp [hin])
      refine ⟨fuel, b.2, ?_⟩
      rw [hf]
      congr 1
      refine Prod.ext ?_ rfl
      show b.1 = Ds[i]
      have h2 : (xs.map (·.1))[i]? = some b.1 := by simp [hb]
      rw [hxs, List.getElem?_eq_getElem hi] at h2
      exact (Option.some.inj h2).symm
    · cases h

theorem pow_atG {W : World} {rest : List (String × DataW Unit)} (h : laidMet Tryd.prog (("internal/strconv.uint64pow10", Rows.laid_internal_strconv_uint64pow10) :: rest) W) : PowAt W :=
  tabIs_of_head (g := 1) (t := 98) (e := 59) (n := 20) (by kernel_rfl) (by kernel_rfl) Tryd.underlying98 Tryd.underlying59 (by kernel_rfl) (by kernel_rfl) h
end Go.Proofs.YtkllhockcnokeaaDoor

/- The table of the forms' words, out of what a row lists. -/
namespace Go.Proofs.YtkllhockcnokeaaDoor
open Go.RowKit Go.ChangeShapes Go.WideShapes Go.ChangeAt Go.Lib

def tbF : List (List UInt8) := [[], [116, 114, 105, 97, 110, 103, 108, 101], [117, 112], [100, 111, 119, 110], [115, 113, 117, 97, 114, 101], [115, 111, 102, 116], [99, 104, 97, 110, 99, 101], [115, 116, 101, 112, 115]]
theorem laid_tbF {H : Type} : (Rows.laid_cyclorama_effect_formWords : DataW H) = .agg (tbF.map fun x => .lit (.string x)) := rfl
theorem cellsFw1 : Tryd.prog.cellsOf 9 = 1 := by kernel_rfl
theorem cellsFw8 : Tryd.prog.cellsOf 35 = 8 * 1 := by kernel_rfl
set_option maxRecDepth 100000 in
theorem fw_at {W : World} {rest : List (String × DataW Unit)} (h : laidMet Tryd.prog (("cyclorama/effect.formWords", Rows.laid_cyclorama_effect_formWords) :: rest) W) : FwAt W := by
  obtain ⟨ps, ⟨g', t', cs, fuel, p, q, hg', ht', hvar, hd, _, _⟩, _⟩ := h
  have hg : Tryd.prog.globalNamed "cyclorama/effect.formWords" = some 0 := by kernel_rfl
  have ht : (Tryd.prog.globals[0]?).map (·.type) = some 35 := by kernel_rfl
  obtain rfl := Option.some.inj (hg.symm.trans hg')
  obtain rfl := Option.some.inj (ht.symm.trans ht')
  rw [laid_tbF] at hd
  obtain ⟨hl, hD, hel⟩ := arr_cells Tryd.underlying35 cellsFw1 cellsFw8 hd
  intro k h9
  have hk : k < (tbF.map fun x => (DataW.lit (.string x) : DataW Unit)).length := by rw [List.length_map]; show k < 8; omega
  obtain ⟨f, pl, hf⟩ := hel k hk
  rw [List.getElem_map] at hf
  obtain ⟨s, hc, hy, _⟩ := DataW.trod_string Tryd.underlying9 hf
  have hs : s.data.toList = tbF[k]'(by simpa using hk) := by
    have := congrArg Prod.fst hy
    simpa using this.symm
  have hx : tbF[k]'(by simpa using hk) = fW k := by
    have key : k = 0 ∨ k = 1 ∨ k = 2 ∨ k = 3 ∨ k = 4 ∨ k = 5 ∨ k = 6 ∨ k = 7 := by omega
    rcases key with rfl | rfl | rfl | rfl | rfl | rfl | rfl | rfl <;> rfl
  have hb : bs (fW k) = s := by rw [← hx, ← hs, bs_of]
  rw [World.var?_cell hg hvar k, hb]
  have := congrArg (·[0]?) hc
  simpa [← Array.getElem?_toList] using this
end Go.Proofs.YtkllhockcnokeaaDoor

/- Slices of structs that come in, opened element by element, whatever the elements are. -/
namespace Go.Proofs.YtkllhockcnokeaaDoor
open Go.RowKit Go.ChangeShapes Go.WideShapes Go.ChangeAt Go.Deep
section
variable {H : Type} {enc : TypeId × Value → H} {w : World} {base : Nat} {spare : Nat → Bool} {held : Bool}

/-- v is a row of elements of k cells, each as C says. -/
def RowOf {α : Type} (C : α → List Value → Prop) (k : Nat) (w : World) (v : Value) (L : List α) : Prop := ∃ (o : Option Addr) (cap : Nat), v = .slice o L.length cap ∧ (L.length ≤ cap ∧ cap ≤ 9223372036854775807) ∧
  (0 < L.length → ∃ b off, o = some ⟨b, off, none⟩ ∧ ∀ i (hi : i < L.length), ∃ cs : List Value, C L[i] cs ∧ cs.length = k ∧ ∀ j, j < k → w.cell? ⟨b, off + i * k + j, none⟩ = cs[j]?)
theorem RowOf.nil {α : Type} (C : α → List Value → Prop) (k : Nat) (w : World) (o : Option Addr) (cap : Nat) (h : cap ≤ 9223372036854775807) : RowOf C k w (.slice o 0 cap) [] :=
  ⟨o, cap, rfl, ⟨Nat.zero_le _, h⟩, fun hp => absurd hp (by simp)⟩
theorem open_rows {P : Program} {α : Type} (C : α → List Value → Prop) (st et : TypeId) (ht : P.underlying st = some (.slice et)) (k : Nat) (hk : P.cellsOf et = k) (h0k : 0 < k)
    (one : ∀ (n : Nat) (cs : List Value) (y : DataW H × List MemPlace), DataW.trod enc P w base spare held n et cs = some y → ∃ e : α, C e cs)
    {n : Nat} {v : Value} {y : DataW H × List MemPlace} (h : DataW.trod enc P w base spare held n st [v] = some y) :
    ∃ L, RowOf C k w v L ∧ ∀ e ∈ L, ∃ cs, C e cs := by
  rcases open_slice ht h with ⟨hv, _⟩ | ⟨a, len, cap, m, n', D, Pl, hcs, _, hl, hm, hmm, _, hi⟩
  · obtain rfl : v = .slice none 0 0 := by simpa using hv
    exact ⟨[], RowOf.nil C k w _ _ (by omega), fun x hx => by cases hx⟩
  · obtain rfl : v = .slice (some a) len cap := by simpa using hcs
    have hle : len ≤ m := by rw [hmm]; split <;> omega
    have hcap : cap ≤ 9223372036854775807 := by unfold maxLen at hm; omega
    have each : ∀ i, i < len → ∃ x : α × List Value, C x.1 x.2 ∧ x.2.length = k ∧ ∀ j, j < k → w.cell? ((a.add (i * k)).add j) = x.2[j]? := by
      intro i hil
      obtain ⟨cs', h1, h2⟩ := hi i (by omega)
      rw [hk] at h1
      obtain ⟨_, hlen, hget⟩ := World.cells?_some h1
      obtain ⟨e, he⟩ := one _ _ _ h2
      exact ⟨(e, cs'), he, hlen, hget⟩
    rcases Nat.eq_zero_or_pos len with h0 | h0
    · subst h0
      exact ⟨[], RowOf.nil C k w _ _ hcap, fun x hx => by cases hx⟩
    · obtain ⟨x0, _⟩ := each 0 h0
      have : Inhabited (α × List Value) := ⟨x0⟩
      obtain ⟨f, hf⟩ := choose_lt each
      obtain ⟨b, off, spot⟩ := a
      have hspot : spot = none := by
        obtain ⟨_, g1, g2⟩ := hf 0 h0
        have g3 := g2 0 h0k
        rw [List.getElem?_eq_getElem (by omega)] at g3
        simpa [Addr.add] using World.cell?_spot g3
      subst hspot
      have hlen : ((List.range len).map fun i => (f i).1).length = len := by simp
      refine ⟨(List.range len).map fun i => (f i).1, ⟨some ⟨b, off, none⟩, cap, by rw [hlen], ⟨by rw [hlen]; exact hl, hcap⟩, fun _ => ⟨b, off, rfl, fun i hi => ?_⟩⟩, fun x hx => ?_⟩
      · rw [hlen] at hi
        have hget : ((List.range len).map fun i => (f i).1)[i]'(by rw [hlen]; exact hi) = (f i).1 := by simp
        rw [hget]
        obtain ⟨h1, h2, h3⟩ := hf i hi
        refine ⟨(f i).2, h1, h2, fun j hj => ?_⟩
        have := h3 j hj
        rwa [add_plain, add_plain] at this
      · obtain ⟨i, hi, rfl⟩ := List.mem_map.1 hx
        exact ⟨_, (hf i (List.mem_range.1 hi)).1⟩
end
end Go.Proofs.YtkllhockcnokeaaDoor

/- Effects that come in, opened. -/
namespace Go.Proofs.YtkllhockcnokeaaDoor
open Go.RowKit Go.ChangeShapes Go.WideShapes Go.ChangeAt Go.Deep
section
variable {H : Type} {enc : TypeId × Value → H} {w : World} {base : Nat} {spare : Nat → Bool} {held : Bool}

theorem cellsEI : Tryd.prog.cellsOf 3 = 1 := by kernel_rfl
theorem cellsEB : Tryd.prog.cellsOf 4 = 1 := by kernel_rfl
theorem cellsES : Tryd.prog.cellsOf 38 = 3 := by kernel_rfl
theorem cellsESs : Tryd.prog.cellsOf 22 = 1 := by kernel_rfl
theorem cellsEE : Tryd.prog.cellsOf 24 = 9 := by kernel_rfl

/-- Numbers that are ints. -/
def StpWf (e : Stp) : Prop := (-9223372036854775808 ≤ e.lv ∧ e.lv ≤ 9223372036854775807) ∧ (-9223372036854775808 ≤ e.ho ∧ e.ho ≤ 9223372036854775807) ∧ (-9223372036854775808 ≤ e.fa ∧ e.fa ≤ 9223372036854775807)
def StpC (e : Stp) (cs : List Value) : Prop := cs = [.int .i64 e.lv, .int .i64 e.ho, .int .i64 e.fa] ∧ StpWf e
set_option maxRecDepth 100000 in
theorem open_stp (n : Nat) (cs : List Value) (y : DataW H × List MemPlace) (h : DataW.trod enc Tryd.prog w base spare held n 38 cs = some y) : ∃ e, StpC e cs := by
  obtain ⟨ys, n2, _, _, hcl, hyl, hf⟩ := DataW.trod_struct Tryd.underlying38 h
  rw [cellsES] at hcl
  match cs, hcl with
  | [c0, c1, c2], _ =>
    have f0 : DataW.trod enc Tryd.prog w base spare held n2 3 (([c0, c1, c2].drop 0).take (Tryd.prog.cellsOf 3)) = ys[0]? := hf 0 _ rfl
    have f1 : DataW.trod enc Tryd.prog w base spare held n2 3 (([c0, c1, c2].drop 1).take (Tryd.prog.cellsOf 3)) = ys[1]? := hf 1 _ rfl
    have f2 : DataW.trod enc Tryd.prog w base spare held n2 3 (([c0, c1, c2].drop 2).take (Tryd.prog.cellsOf 3)) = ys[2]? := hf 2 _ rfl
    simp only [cellsEI, List.drop_zero, List.take_succ_cons, List.take_zero, List.drop_succ_cons] at f0 f1 f2
    have hyl2 : ys.length = 3 := hyl
    rw [List.getElem?_eq_getElem (by omega)] at f0 f1 f2
    obtain ⟨z0, e0, _, w0⟩ := DataW.trod_int Tryd.underlying3 f0
    obtain ⟨z1, e1, _, w1⟩ := DataW.trod_int Tryd.underlying3 f1
    obtain ⟨z2, e2, _, w2⟩ := DataW.trod_int Tryd.underlying3 f2
    simp only [List.cons.injEq, and_true] at e0 e1 e2
    subst e0 e1 e2
    exact ⟨⟨z0, z1, z2⟩, rfl, bounds_i64 w0, bounds_i64 w1, bounds_i64 w2⟩
theorem stp_of_row {v : Value} {L : List Stp} (h : RowOf StpC 3 w v L) : StpVal w v L := by
  obtain ⟨o, cap, h1, h2, h3⟩ := h
  refine ⟨o, cap, h1, h2, fun hp => ?_⟩
  obtain ⟨b, off, h4, h5⟩ := h3 hp
  refine ⟨b, off, h4, fun i hi => ?_⟩
  obtain ⟨cs, ⟨rfl, _⟩, _, h6⟩ := h5 i hi
  exact ⟨h6 0 (by omega), h6 1 (by omega), h6 2 (by omega)⟩
set_option maxRecDepth 100000 in
theorem open_stps {n : Nat} {v : Value} {y : DataW H × List MemPlace} (h : DataW.trod enc Tryd.prog w base spare held n 22 [v] = some y) : ∃ L, StpVal w v L ∧ ∀ e ∈ L, StpWf e := by
  obtain ⟨L, h1, h2⟩ := open_rows StpC 22 38 Tryd.underlying22 3 cellsES (by omega) open_stp h
  exact ⟨L, stp_of_row h1, fun e he => by obtain ⟨_, _, h3⟩ := h2 e he; exact h3⟩
/-- An effect's own numbers are ints. -/
def EffWf (e : Eff) : Prop := (-9223372036854775808 ≤ e.frm ∧ e.frm ≤ 9223372036854775807) ∧ (-9223372036854775808 ≤ e.lo ∧ e.lo ≤ 9223372036854775807) ∧ (-9223372036854775808 ≤ e.hi ∧ e.hi ≤ 9223372036854775807) ∧ (-9223372036854775808 ≤ e.cyc ∧ e.cyc ≤ 9223372036854775807) ∧ (-9223372036854775808 ≤ e.wid ∧ e.wid ≤ 9223372036854775807) ∧ (-9223372036854775808 ≤ e.spr ∧ e.spr ≤ 9223372036854775807) ∧ ∀ x ∈ e.st, StpWf x
set_option maxRecDepth 100000 in
/-- The nine cells of an effect. -/
theorem open_eff' {n : Nat} {cs : List Value} {y : DataW H × List MemPlace} (h : DataW.trod enc Tryd.prog w base spare held n 24 cs = some y) :
    ∃ (e : Eff) (v : Value), cs = [.int .i64 e.frm, .int .i64 e.lo, .int .i64 e.hi, .int .i64 e.cyc, .int .i64 e.wid, .int .i64 e.spr, .bool e.bk, .bool e.rl, v] ∧ StpVal w v e.st ∧ EffWf e := by
  obtain ⟨ys, n2, _, _, hcl, hyl, hf⟩ := DataW.trod_struct Tryd.underlying24 h
  rw [cellsEE] at hcl
  match cs, hcl with
  | [c0, c1, c2, c3, c4, c5, c6, c7, c8], _ =>
    have f0 : DataW.trod enc Tryd.prog w base spare held n2 3 (([c0, c1, c2, c3, c4, c5, c6, c7, c8].drop 0).take (Tryd.prog.cellsOf 3)) = ys[0]? := hf 0 _ rfl
    have f1 : DataW.trod enc Tryd.prog w base spare held n2 3 (([c0, c1, c2, c3, c4, c5, c6, c7, c8].drop 1).take (Tryd.prog.cellsOf 3)) = ys[1]? := hf 1 _ rfl
    have f2 : DataW.trod enc Tryd.prog w base spare held n2 3 (([c0, c1, c2, c3, c4, c5, c6, c7, c8].drop 2).take (Tryd.prog.cellsOf 3)) = ys[2]? := hf 2 _ rfl
    have f3 : DataW.trod enc Tryd.prog w base spare held n2 3 (([c0, c1, c2, c3, c4, c5, c6, c7, c8].drop 3).take (Tryd.prog.cellsOf 3)) = ys[3]? := hf 3 _ rfl
    have f4 : DataW.trod enc Tryd.prog w base spare held n2 3 (([c0, c1, c2, c3, c4, c5, c6, c7, c8].drop 4).take (Tryd.prog.cellsOf 3)) = ys[4]? := hf 4 _ rfl
    have f5 : DataW.trod enc Tryd.prog w base spare held n2 3 (([c0, c1, c2, c3, c4, c5, c6, c7, c8].drop 5).take (Tryd.prog.cellsOf 3)) = ys[5]? := hf 5 _ rfl
    have f6 : DataW.trod enc Tryd.prog w base spare held n2 4 (([c0, c1, c2, c3, c4, c5, c6, c7, c8].drop 6).take (Tryd.prog.cellsOf 4)) = ys[6]? := hf 6 _ rfl
    have f7 : DataW.trod enc Tryd.prog w base spare held n2 4 (([c0, c1, c2, c3, c4, c5, c6, c7, c8].drop 7).take (Tryd.prog.cellsOf 4)) = ys[7]? := hf 7 _ rfl
    have f8 : DataW.trod enc Tryd.prog w base spare held n2 22 (([c0, c1, c2, c3, c4, c5, c6, c7, c8].drop 8).take (Tryd.prog.cellsOf 22)) = ys[8]? := hf 8 _ rfl
    simp only [cellsEI, cellsEB, cellsESs, List.drop_zero, List.take_succ_cons, List.take_zero, List.drop_succ_cons] at f0 f1 f2 f3 f4 f5 f6 f7 f8
    have hyl2 : ys.length = 9 := hyl
    rw [List.getElem?_eq_getElem (by omega)] at f0 f1 f2 f3 f4 f5 f6 f7 f8
    obtain ⟨z0, e0, _, w0⟩ := DataW.trod_int Tryd.underlying3 f0
    obtain ⟨z1, e1, _, w1⟩ := DataW.trod_int Tryd.underlying3 f1
    obtain ⟨z2, e2, _, w2⟩ := DataW.trod_int Tryd.underlying3 f2
    obtain ⟨z3, e3, _, w3⟩ := DataW.trod_int Tryd.underlying3 f3
    obtain ⟨z4, e4, _, w4⟩ := DataW.trod_int Tryd.underlying3 f4
    obtain ⟨z5, e5, _, w5⟩ := DataW.trod_int Tryd.underlying3 f5
    obtain ⟨z6, e6, _⟩ := DataW.trod_bool Tryd.underlying4 f6
    obtain ⟨z7, e7, _⟩ := DataW.trod_bool Tryd.underlying4 f7
    obtain ⟨L, hL, hw⟩ := open_stps f8
    simp only [List.cons.injEq, and_true] at e0 e1 e2 e3 e4 e5 e6 e7
    subst e0 e1 e2 e3 e4 e5 e6 e7
    exact ⟨⟨z0, z1, z2, z3, z4, z5, z6, z7, L⟩, c8, rfl, hL, bounds_i64 w0, bounds_i64 w1, bounds_i64 w2, bounds_i64 w3, bounds_i64 w4, bounds_i64 w5, hw⟩
set_option maxRecDepth 100000 in
theorem open_eff {r : Reach} {b0 : Nat} {v : Value} {d : DataW H} {p : List MemPlace} (hv : Value.okWide Tryd.prog w r b0 24 v) (h : DataW.Trod enc Tryd.prog w base spare held 24 v d p) :
    ∃ (e : Eff) (s : Value), v = effV e s ∧ StpVal w s e.st ∧ EffWf e := by
  obtain ⟨cs, rfl, _⟩ := okWide_struct Tryd.underlying24 hv
  obtain ⟨n, hn⟩ := h
  obtain ⟨e, s, h1, h2, h3⟩ := open_eff' hn
  obtain ⟨cl⟩ := cs
  simp only [Value.cells] at h1
  subst h1
  exact ⟨e, s, rfl, h2, h3⟩
end
end Go.Proofs.YtkllhockcnokeaaDoor

/- The variable MaxLen of internal/bytealg, in any world that is shaped as the program lays it. -/
namespace Go.Proofs.YtkllhockcnokeaaDoor
open Go.ChangeShapes Go.WideShapes Go.ChangeAt Go.RowKit Go.Sort Go.Lib

theorem maxLen_at {W : World} (h : W.ShapedOpen Tryd.prog) : MxAt W :=
  cell_of_shapedOpen_int (P := Tryd.prog) (g := 2) (t := 3) (zero := #[.int .i64 0]) h (of_decide_eq_true (by kernel_rfl)) (by kernel_rfl) rfl (by kernel_rfl) (by kernel_rfl) Tryd.underlying3
end Go.Proofs.YtkllhockcnokeaaDoor

namespace Go.Proofs.YtkllhockcnokeaaDoor.effback
open Go.ChangeShapes Go.WideShapes Go.ChangeAt Go.RowKit Go.Sort Go.Lib

set_option maxRecDepth 100000 in
set_option maxHeartbeats 12800000 in
theorem walk (e : Eff) (sv : Value) (w : World) (hsv : StpVal w sv e.st) (hpw : PowAt w) (hfw : FwAt w) (hm : MxAt w) :
    Calls Tryd.prog 4 #[effV e sv] w fun r w' => r = .returned (.bool true) ∧ Bl w w' := by
  have H1 := Lib.hid (fun w' (m : Bl w w') => text_any e sv w' (hsv.bl m) (hpw.bl m) (hfw.bl m))
  have HSV := Lib.hid hsv
  obtain ⟨o, cap, rfl, _, _⟩ := hsv
  obtain ⟨W0, hW0⟩ : ∃ W0, W0 = w.alloc (.cells #[.int .i64 e.frm, .int .i64 e.lo, .int .i64 e.hi, .int .i64 e.cyc, .int .i64 e.wid, .int .i64 e.spr, .bool e.bk, .bool e.rl, .slice o e.st.length cap] 24) := ⟨_, rfl⟩
  have bW : Bl w W0 := by rw [hW0]; exact (Bl.refl w).alloc _
  have HA := Lib.hid (show EffAt W0 w.heap.size e (.slice o e.st.length cap) by rw [hW0]; exact EffAt.new _ _ _ _)
  obtain ⟨c0, c1, c2, c3, c4, c5, c6, c7, c8⟩ := HA.out
  by_cases hk : ckE e = 0
  · have HR := Lib.hid (fun w' (m : Bl w w') => read_ok e w' hk (hm.bl m) (hfw.bl m))
    have e1 : efS e = efTxt e := by unfold efS; rw [if_pos hk]
    rw [e1, hk] at H1
    have HE := Lib.hid (fun v w' (hv : StpVal w' v e.st) (m : Bl w w') => same_eff e v (.slice o e.st.length cap) w' hv (HSV.out.bl m))
    clear hk hpw hfw hm e1
    unfold effV at *
    generalize bs (efTxt e) = S at *
    go_enter Tryd.func4, Tryd.ntmps4
    go_wp2_with fail
    rw [← hW0]
    clear hW0
    go_wp2_with fail
    refine (H1.out _ bW).mono ?_
    rintro r w1 ⟨rfl, m1⟩
    clear c0 c1 c2 c3 c4 c5 c6 c7 c8
    have b1 := Lib.hid (bW.trans m1)
    go_wp2_with fail
    refine (HR.out _ b1.out).mono ?_
    rintro r w2 ⟨v, rfl, hv, m2⟩
    have HV := Lib.hid hv
    have b2 := Lib.hid (b1.out.trans m2)
    have A2 := Lib.hid (HA.out.bl (m1.trans m2))
    obtain ⟨o2, cap2, rfl, _, _⟩ := hv
    obtain ⟨W3, hW3⟩ : ∃ W3, W3 = w2.alloc (.cells #[.int .i64 e.frm, .int .i64 e.lo, .int .i64 e.hi, .int .i64 e.cyc, .int .i64 e.wid, .int .i64 e.spr, .bool e.bk, .bool e.rl, .slice o2 e.st.length cap2] 24) := ⟨_, rfl⟩
    have b3 : Bl w2 W3 := by rw [hW3]; exact (Bl.refl w2).alloc _
    have A3 := Lib.hid (show EffAt W3 w2.heap.size e (.slice o2 e.st.length cap2) by rw [hW3]; exact EffAt.new _ _ _ _)
    have A2' := Lib.hid (A2.out.bl b3)
    have V3 := Lib.hid (HV.out.bl b3)
    have B3 := Lib.hid (b2.out.trans b3)
    have H3 := Lib.hid hW3
    clear m1 m2 b3 hW3
    unfold effV
    go_upto_region 5 with fail
    rw [← H3.out]
    clear H3
    obtain ⟨c0, c1, c2, c3, c4, c5, c6, c7, c8⟩ := A2'.out
    obtain ⟨d0, d1, d2, d3, d4, d5, d6, d7, d8⟩ := A3.out
    go_wp2_with fail
    refine (HE.out _ W3 V3.out B3.out).mono ?_
    rintro r w4 ⟨rfl, m4⟩
    go_wp2_with fail
    go_ret
    exact ⟨rfl, B3.out.trans m4⟩
  · have e1 : efS e = [] := by unfold efS; rw [if_neg hk]
    have t1 : (ckE e != 0) = true := by simpa using hk
    rw [e1] at H1
    have tE : (bs []).toList.isEmpty = true := by rw [Lib.toList_data, bs_list]; rfl
    clear hk hpw hfw hm e1
    unfold effV at *
    generalize bs [] = S at *
    generalize ckE e = X at *
    go_enter Tryd.func4, Tryd.ntmps4
    go_wp2_with fail
    rw [← hW0]
    clear hW0
    go_wp2_with (go_at_call 5; (refine (H1.out _ bW).mono ?_); rintro r w1 ⟨rfl, m1⟩)
    go_returns
    exact ⟨rfl, bW.trans m1⟩

theorem own : ownKnob Tryd.prog.godebug = none := by kernel_rfl
theorem laid : laidOutB Tryd.prog = true := by kernel_rfl

set_option maxRecDepth 100000 in
theorem lifted (os : Os) (started : os.Started) (H : Type) (enc : TypeId × Value → H) :
    ReturnsInHanded {} Tryd.checked os 4 .any (fun w args => (Rows.effectTextsComeBackSpec.pre enc Tryd.prog Tryd.f4 Rows.effectTextsComeBackRow.domain false w args ∧ laidMetH Tryd.prog Rows.effectTextsComeBackRow.laid w) ∧ sizedMet enc Tryd.prog Tryd.f4 (OpenSpec.ofChange Rows.effectTextsComeBackSpec) false w args) (Rows.effectTextsComeBackSpec.post enc Tryd.prog Tryd.f4 false true false false) := by
  refine lift_tied (C := Tryd.checked) (X := fun w _ => laidMetH Tryd.prog Rows.effectTextsComeBackRow.laid w) (fun _ _ _ hh h => h.of_heap hh) own started (by kernel_rfl) Tryd.func4
    (ChangeSpec.witness_shaped (enc := enc) (C := Tryd.checked) (os := os) (X := fun w _ => laidMetH Tryd.prog Rows.effectTextsComeBackRow.laid w) false (World.laidAll Tryd.prog os Rows.effectTextsComeBackRow.laid) #[.agg #[.int .i64 0, .int .i64 0, .int .i64 0, .int .i64 0, .int .i64 0, .int .i64 0, .bool false, .bool false, .slice none 0 0]] 8 (World.laidAll_os _ _ _)
      (World.shaped_of_ZipB (by kernel_rfl) (by kernel_rfl)) (by kernel_rfl) (by kernel_rfl) (by kernel_rfl)
      (by rw [MakeChecks.laidMetH_plain _ _ _ (by kernel_rfl)]; exact laidMet_laidAll _ (by kernel_rfl) (by kernel_rfl))) ?_
  intro W base args ds gs before hval0 hW hsz0 hL0 hsh
  have hm0 := maxLen_at hsh
  have hL : laidMetH Tryd.prog Rows.effectTextsComeBackRow.laid W := hL0
  rw [MakeChecks.laidMetH_plain _ _ _ (by kernel_rfl)] at hL
  have hp0 := pow_atG hL.tail.tail
  have hf0 := fw_at hL.tail.tail.tail.tail
  have hval : ∀ (j : Nat) t v, Tryd.f4.params[j]? = some t → args[j]? = some v → Value.okWide Tryd.prog W .any base t v := hval0
  have hW' := hW
  obtain ⟨p, q, hA0, hV, rfl, hfz, hnd⟩ := hW
  have hA : DataW.TrodAll enc Tryd.prog W 0 (fun _ => true) true Tryd.f4.params.toList args.toList ds p := hA0
  rw [Tryd.params4] at hA hval
  obtain ⟨v0, vs0, d0, ds0, p0, q0, hargs, rfl, rfl, h0, r0⟩ := trodAll_cons hA
  obtain ⟨rfl, rfl, rfl⟩ := trodAll_nil r0
  obtain rfl : args = #[v0] := by cases args; simp_all
  obtain ⟨rfl, rfl⟩ := trodVars_none hV
  obtain ⟨e0, sv0, rfl, hv0, hw0⟩ := open_eff (hval 0 24 v0 rfl rfl) h0
  clear hA0 hval0
  refine (walk e0 sv0 W hv0 hp0 hf0 hm0).mono fun e W' ⟨he, hg⟩ => ?_
  subst he
  exact ⟨_, rfl, law_old hW' rfl rfl (by kernel_rfl) Tryd.underlying4 laid (by kernel_rfl) hg⟩

theorem over : Rows.effectTextsComeBackRow.holds Tryd.pinned (OpenSpec.ofChange Rows.effectTextsComeBackSpec) :=
  OpenClaim.holds_of_wide 4 Tryd.f4 rfl rfl rfl rfl rfl rfl rfl ⟨rfl, rfl, rfl, rfl, rfl⟩ rfl rfl rfl rfl rfl (by kernel_rfl) Tryd.func4 (by kernel_rfl)
    (of_decide_eq_true (by kernel_rfl)) (by unfold Func.isWrapper; first | (rw [if_pos (by decide +kernel)]; kernel_rfl) | (rw [if_neg (by decide +kernel)]; exact ⟨rfl, rfl⟩))
    (fun os started H enc _ => lifted os started H enc)

/-- The card: the statement. -/
theorem proved : Rows.EffectTextsComeBackCardSaid :=
  Claim7.holds_tied_plain_at .later [] [.data, .data, .data, .data, .data, .pinned] true (true, "18cd26c6c0aad006c963f31e38b5e8d6e21a318dd86e3c2d59b7160d5094bcd8") false over (fun _ h => by cases h) (by kernel_rfl) (fun _ h => by cases h) effectTextsComeBack_row_tie rfl ⟨rfl, rfl⟩ (by kernel_rfl) rfl
    (fun f fn hf hfn => by
      obtain rfl : f = 4 := Option.some.inj ((show Tryd.prog.funcNamed "cyclorama/cycloramalaw7.EffectTextsComeBack" = some 4 by kernel_rfl).symm.trans hf) |>.symm
      obtain rfl : fn = Tryd.f4 := (Option.some.inj (Tryd.func4.symm.trans hfn)).symm
      exact ⟨by kernel_rfl, fun j t ht => by
        rw [Tryd.params4] at ht
        have hm := Array.mem_of_getElem? ht
        have hall : ((#[24] : Array TypeId).toList.all fun u => !Tryd.prog.wantsStandIn u) = true := by kernel_rfl
        exact (show Tryd.prog.wantsStandIn t = false by simpa using List.all_eq_true.1 hall t (by simpa using hm))⟩)
    (by kernel_rfl)
end Go.Proofs.YtkllhockcnokeaaDoor.effback

