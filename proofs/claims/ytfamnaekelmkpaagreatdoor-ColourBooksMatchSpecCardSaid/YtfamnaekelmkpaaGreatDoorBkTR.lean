/- BookText of the reference. -/
import Derived.Test.YtfamnaekelmkpaaGreatDoorBkCR
import Derived.Test.YtfamnaekelmkpaaGreatDoorBkT
import Derived.Test.YtfamnaekelmkpaaGreatDoorHexT
namespace Go.Proofs.YtfamnaekelmkpaaGreatDoor
open Go.RowKit Go.Sort Go.Lib

theorem showR_is (r g b : Int) (h : isCol r g b = true) (w : World) (hd : DbAt w) :
    Calls Tryz.prog 16 #[.agg #[.int .i64 r, .int .i64 g, .int .i64 b]] w fun e w' => e = .returned (.tuple #[.string (bs (shC r.toNat g.toNat b.toNat)), .int .i64 0]) ∧ Bl w w' := by
  have := showR_col r g b w hd
  rwa [show shT r g b = shC r.toNat g.toNat b.toNat by unfold shT; rw [h]; rfl, show ckCol r g b = 0 by unfold ckCol; rw [h]; rfl] at this
set_option maxRecDepth 100000 in
set_option maxHeartbeats 3200000 in
theorem bookTextR_ok (v : Value) (L : List Gel) (w : World) (hv : GelVal w v L) (h0 : ckBook L = 0) (hpw : PowAt w) (hdb : DbAt w) :
    Calls Tryz.prog 5 #[v] w fun e w' => e = .returned (.tuple #[.string (bs (bkTxt L)), .int .i64 0]) ∧ Bl w w' := by
  have HCK := Lib.hid (checkBook_ref v L w hv)
  rw [h0] at HCK
  obtain ⟨hl, hgo⟩ := ckBook_ok h0
  obtain ⟨o, cap, rfl, hm, hp⟩ := hv
  have HP := Lib.hid hp
  have HO := Lib.hid hgo
  have HPW := Lib.hid (fun w' (m : Bl w w') => hpw.bl m)
  have HDB := Lib.hid (fun w' (m : Bl w w') => hdb.bl m)
  have HTL := Lib.hid (bkTxt_len L hgo)
  clear hp hgo hpw hdb h0
  go_enter Tryz.func5, Tryz.ntmps5
  go_wp2_with (go_at_call 7; refine HCK.out.mono ?_; rintro e w1 ⟨rfl, m1⟩)
  have M1 := Lib.hid m1
  have z1 : w.heap.size ≤ w1.heap.size := m1.size
  clear m1
  go_loopw [5, 17] (fun vt vi wr => ∃ k : Nat, k ≤ L.length ∧ vi = .int .i64 k ∧ vt = .string (bs (bkTxt (L.take k))) ∧ Hid (Bl w wr)) (fun _ vi _ => L.length - (intOf vi).toNat)
  case atStart => exact ⟨0, Nat.zero_le _, rfl, rfl, M1.out⟩
  case round =>
    obtain ⟨k, hk, rfl, rfl, HB⟩ := hrel
    rename World => wr
    by_cases hlt : k < L.length
    · obtain ⟨b, off, rfl, hL⟩ := HP.out (by omega)
      obtain ⟨c0, c1, c2, c3, c4⟩ := (hL.bl HB.out) k hlt
      have hgo := HO.out L[k] (List.getElem_mem hlt)
      have htk := Lib.hid (bkTxt_take L k hlt)
      obtain ⟨x, hx⟩ : ∃ x, x = L[k] := ⟨_, rfl⟩
      rw [← hx] at htk c0 c1 c2 c3 c4 hgo
      have hbl := bkTxt_len (L.take k) (fun e he => HO.out e (List.mem_of_mem_take he))
      rw [List.length_take] at hbl
      clear hx hL
      have k1 : (k : Int) < (L.length : Int) := by omega
      obtain ⟨⟨n0, n1⟩, ht, hcol⟩ := hgo
      have hA := dd4 n0 n1
      have hC := shC_len x.r.toNat x.g.toNat x.b.toNat
      have hN := (isTtl_len ht).1
      have HI := Lib.hid (fun w' (m : Bl w w') => itoa_bk x.n w' (by omega) n1 (HPW.out w' m))
      have HS := Lib.hid (fun w' (m : Bl w w') => showR_is x.r x.g x.b hcol w' (HDB.out w' m))
      have hline : bkLine x = decDigits x.n.toNat ++ 32 :: (shC x.r.toNat x.g.toNat x.b.toNat ++ 32 :: (x.name.data.toList ++ [10])) := rfl
      obtain ⟨N, hNm⟩ : ∃ N, N = x.name.data.toList := ⟨_, rfl⟩
      have hnb : x.name = bs N := by rw [hNm, bs_of]
      rw [← hNm] at hline hN
      rw [hnb] at c1
      clear hNm ht hcol
      generalize decDigits x.n.toNat = A at *
      generalize shC x.r.toNat x.g.toNat x.b.toNat = C at *
      have s1 : bs [32] = (⟨#[32]⟩ : ByteArray) := rfl
      have s2 : bs [10] = (⟨#[10]⟩ : ByteArray) := rfl
      have R1 : ∀ w, (Op.stringOp .add (bs A) ⟨#[32]⟩).run Tryz.prog w = .ok (.string (bs A ++ ⟨#[32]⟩)) w := fun w => by rw [← s1]; exact sum_bs A [32] 4 hA (by decide) (by decide) w
      have R2 : ∀ w, (Op.stringOp .add (bs A ++ ⟨#[32]⟩) (bs C)).run Tryz.prog w = .ok (.string (bs A ++ ⟨#[32]⟩ ++ bs C)) w := fun w => by rw [← s1, bs_app]; exact sum_bs (A ++ [32]) C 5 (by rw [List.length_append, List.length_singleton]; omega) (by omega) (by decide) w
      have R3 : ∀ w, (Op.stringOp .add (bs A ++ ⟨#[32]⟩ ++ bs C) ⟨#[32]⟩).run Tryz.prog w = .ok (.string (bs A ++ ⟨#[32]⟩ ++ bs C ++ ⟨#[32]⟩)) w := fun w => by rw [← s1, bs_app, bs_app]; exact sum_bs (A ++ [32] ++ C) [32] 18 (by simp only [List.length_append, List.length_singleton]; omega) (by decide) (by decide) w
      have R4 : ∀ w, (Op.stringOp .add (bs A ++ ⟨#[32]⟩ ++ bs C ++ ⟨#[32]⟩) (bs N)).run Tryz.prog w = .ok (.string (bs A ++ ⟨#[32]⟩ ++ bs C ++ ⟨#[32]⟩ ++ bs N)) w := fun w => by rw [← s1, bs_app, bs_app, bs_app]; exact sum_bs (A ++ [32] ++ C ++ [32]) N 19 (by simp only [List.length_append, List.length_singleton]; omega) (by omega) (by decide) w
      have R5 : ∀ w, (Op.stringOp .add (bs A ++ ⟨#[32]⟩ ++ bs C ++ ⟨#[32]⟩ ++ bs N) ⟨#[10]⟩).run Tryz.prog w = .ok (.string (bs A ++ ⟨#[32]⟩ ++ bs C ++ ⟨#[32]⟩ ++ bs N ++ ⟨#[10]⟩)) w := fun w => by rw [← s1, ← s2, bs_app, bs_app, bs_app, bs_app]; exact sum_bs (A ++ [32] ++ C ++ [32] ++ N) [10] 79 (by simp only [List.length_append, List.length_singleton]; omega) (by decide) (by decide) w
      have hZ : bs A ++ ⟨#[32]⟩ ++ bs C ++ ⟨#[32]⟩ ++ bs N ++ ⟨#[10]⟩ = bs (bkLine x) := by
        rw [← s1, ← s2, bs_app, bs_app, bs_app, bs_app, bs_app, hline]
        simp
      have hZl : (bkLine x).length ≤ 80 := by rw [hline]; simp only [List.length_append, List.length_cons, List.length_nil]; omega
      have R6 : ∀ w, (Op.stringOp .add (bs (bkTxt (L.take k))) (bs A ++ ⟨#[32]⟩ ++ bs C ++ ⟨#[32]⟩ ++ bs N ++ ⟨#[10]⟩)).run Tryz.prog w = .ok (.string (bs (bkTxt (L.take k)) ++ (bs A ++ ⟨#[32]⟩ ++ bs C ++ ⟨#[32]⟩ ++ bs N ++ ⟨#[10]⟩))) w := fun w => run_string_add_sum w _ _ (by rw [hZ, bs_size, bs_size]; omega)
      have hF : Hid (bs (bkTxt (L.take k)) ++ (bs A ++ ⟨#[32]⟩ ++ bs C ++ ⟨#[32]⟩ ++ bs N ++ ⟨#[10]⟩) = bs (bkTxt (L.take (k + 1)))) := by
        show _ = _
        rw [hZ, bs_app, htk.out]
      clear hline hZ hZl s1 s2 hA hC hN hbl htk
      generalize bs (bkTxt (L.take k)) = ST at *
      generalize bs A = SA at *
      generalize bs C = SC at *
      generalize bs N = SN at *
      generalize x.n = xn at *
      generalize x.r = xr at *
      generalize x.g = xg at *
      generalize x.b = xb at *
      go_wp2_with (go_at_call 16; refine (HS.out _ (HB.out.alloc _)).mono ?_; rintro e w2 ⟨rfl, m2⟩)
      obtain ⟨W0, hW0⟩ : ∃ W0, W0 = wr.alloc (.cells #[.int .i64 xn, .string SN, .int .i64 xr, .int .i64 xg, .int .i64 xb] 33) := ⟨_, rfl⟩
      have b0 : Bl wr W0 := by rw [hW0]; exact (Bl.refl wr).alloc _
      have e0 : W0.cell? ⟨wr.heap.size, 0, none⟩ = some (.int .i64 xn) := by rw [hW0]; simp
      have e1 : W0.cell? ⟨wr.heap.size, 1, none⟩ = some (.string SN) := by rw [hW0]; simp
      have e0 : w2.cell? ⟨wr.heap.size, 0, none⟩ = some (.int .i64 xn) := Bl.cell (by rw [hW0]; exact m2) e0
      have e1 : w2.cell? ⟨wr.heap.size, 1, none⟩ = some (.string SN) := Bl.cell (by rw [hW0]; exact m2) e1
      have hB2 : Bl w w2 := (HB.out.alloc _).trans m2
      clear hW0 c0 c1 c2 c3 c4 m2 b0
      have f0 := e0
      have f1 := e1
      go_region_held3 (fun w' => w'.cell? ⟨wr.heap.size, 0, none⟩ = some (.int .i64 xn) ∧ w'.cell? ⟨wr.heap.size, 1, none⟩ = some (.string SN))
        (refine ⟨Bl.cell (w := w2) ?_ f0, Bl.cell (w := w2) ?_ f1⟩ <;> (((repeat (first | with_reducible exact Bl.refl _ | with_reducible assumption | with_reducible refine Bl.drew ?_ | with_reducible refine Bl.alloc ?_ _ | with_reducible refine Bl.trans ?_ (by assumption))); done); done))
        (first | (go_at_call 12; (with_reducible refine (HI.out _ (hB2.trans ?_)).mono ?_); (focus ((repeat (first | with_reducible exact Bl.refl _ | with_reducible assumption | with_reducible refine Bl.drew ?_ | with_reducible refine Bl.alloc ?_ _ | with_reducible refine Bl.trans ?_ (by assumption))); done)); rintro e' w6 ⟨rfl, m6⟩))
      all_goals
        go_wp2
        refine ⟨⟨k + 1, by omega, by congr 1, by rw [hF.out], hB2.trans (by ((repeat (first | with_reducible exact Bl.refl _ | with_reducible assumption | with_reducible refine Bl.drew ?_ | with_reducible refine Bl.alloc ?_ _ | with_reducible refine Bl.trans ?_ (by assumption))); done))⟩, by simp [intOf]; omega⟩
    · obtain rfl : k = L.length := by omega
      have hle : ((bs (bkTxt L)).size : Int) ≤ 60000 := by rw [bs_size]; have := HTL.out; omega
      obtain ⟨ST, hT⟩ : ∃ T, T = bs (bkTxt L) := ⟨_, rfl⟩
      rw [List.take_length, ← hT]
      rw [← hT] at hle
      have HT := Lib.hid hT
      clear HTL HP HO hT
      go_wp2
      go_ret2
      exact ⟨by rw [← HT.out]; rfl, HB.out⟩
set_option maxHeartbeats 800000 in
theorem bookTextR_no (v : Value) (L : List Gel) (w : World) (hv : GelVal w v L) (h0 : ckBook L ≠ 0) :
    Calls Tryz.prog 5 #[v] w fun e w' => e = .returned (.tuple #[.string ⟨#[]⟩, .int .i64 (ckBook L)]) ∧ Bl w w' := by
  have HCK := Lib.hid (checkBook_ref v L w hv)
  have t1 : (ckBook L != 0) = true := by simpa using h0
  obtain ⟨o, cap, rfl, hm, hp⟩ := hv
  clear hp h0
  generalize ckBook L = X at *
  go_enter Tryz.func5, Tryz.ntmps5
  go_wp2_with (go_at_call 7; refine HCK.out.mono ?_; rintro e w1 ⟨rfl, m1⟩)
  go_returns
  exact ⟨rfl, m1⟩
end Go.Proofs.YtfamnaekelmkpaaGreatDoor
